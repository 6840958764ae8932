"""Strips led to pairs: a standing is written into two numbers, each step is one of a pair machine."""

from emptywords.basics import check_pair
from emptywords.pairs import Machine, comes, run
from emptywords.strips import check_standing, check_strip, first_mark, trimmed


def led(strip):
    """The Machine that does, step for step, what the strip does."""
    check_strip(strip)
    marks, base = strip.marks, _base(strip)
    lines = [f"figures {base}"]
    # Rows differ in state or mark, so nothing behind these two is compared.
    for state, mark, written, side, then in sorted(strip.rows):
        put = written * base + marks + then
        lines.append(f"row {marks + state} {mark} {put} {side}")
        lines.append(f"row {mark} {marks + state} {put} {side}")
    end = marks + strip.states
    lines.append(f"row {end} 0 0 right")
    lines.append(f"row 0 {end} 0 right")
    return Machine("\n".join(lines))


def pairs_of(strip, standing):
    """Both PAIRS that stand for the STANDING."""
    check_standing(strip, standing)
    state, left, right = standing
    base, state_figure = _base(strip), strip.marks + state
    one = (_number(base, (state_figure,) + left), _number(base, right))
    other = (_number(base, (first_mark(right),) + left), _number(base, (state_figure,) + right[1:]))
    return (one, other)


def standing_of(strip, pair):
    """The STANDING for which the PAIR stands; None if there is none."""
    check_strip(strip)
    check_pair(pair)
    if pair[0] < 0 or pair[1] < 0:
        return None
    one, other = _figures(_base(strip), pair[0]), _figures(_base(strip), pair[1])
    if _tells_state(strip, one, other):
        return (one[0] - strip.marks, one[1:], other)
    if _tells_state(strip, other, one):
        return (other[0] - strip.marks, one[1:], trimmed((first_mark(one),) + other[1:]))
    return None


def run_led(strip, standing, most):
    """The tuple of PAIRS, at most most, that the led machine goes through."""
    # All values are checked there, and in their sequence.
    return run(led(strip), pairs_of(strip, standing)[0], most)


def ends_with(strip, standing, most):
    """What comes of the STANDING's first PAIR by the led machine within most steps."""
    # All values are checked there, and in their sequence.
    return comes(led(strip), pairs_of(strip, standing)[0], most)


def _base(strip):
    """As many figures as there are marks, states, and the end."""
    return strip.marks + strip.states + 1


def _number(base, figures):
    """The number with these figures, the lowest one first."""
    number = 0
    for figure in reversed(figures):
        number = number * base + figure
    return number


def _figures(base, number):
    """The tuple of the number's figures, the lowest one first; () for 0."""
    figures = []
    while number > 0:
        figures.append(number % base)
        number = number // base
    return tuple(figures)


def _tells_state(strip, figures, other_figures):
    """Whether the lowest of the figures is a state's, and all others, on both sides, are marks'."""
    if len(figures) == 0 or figures[0] < strip.marks:
        return False
    return all([figure < strip.marks for figure in figures[1:] + other_figures])
