"""Hands: what stands between a hand and its undoing may go by; so it is told which words are empty."""

from emptywords.basics import is_sign, is_within
from emptywords.books import Scroll, is_product
from emptywords.errors import BadHand, BadTower, BadWay, HasK, IsPassed
from emptywords.ground import OpenForm, check_form, is_form, word_of_form
from emptywords.pairs import check_machine
from emptywords.words import GROUND_LETTERS, check_word, is_word, move_t, put_word, undo_word

NOTHING = ((), 0, 0)


def check_no_k(machine, word):
    """NoMachine for the machine, then BadWord and HasK for the word."""
    check_word(machine, word)
    for number, (letter, _) in enumerate(word):
        if letter == "k":
            raise HasK(number)


def _check_passing(machine, hand, form, way):
    check_machine(machine)
    if not is_within(hand, 0, len(machine.rows) - 1):
        raise BadHand(hand)
    check_form(form)
    if not is_sign(way):
        raise BadWay(way)


def passed(machine, hand, form, way):
    """What the FORM becomes as it goes by the hand; None if it does not."""
    _check_passing(machine, hand, form, way)
    return form_passed(machine, hand, form, way)


def lacks(machine, hand, form, way):
    """The first of the FORM that does not go by the hand."""
    _check_passing(machine, hand, form, way)
    lacking = _lacking(_scales(machine, hand, way)[0], form)
    if lacking is None:
        raise IsPassed(None)
    return lacking


def _scales(machine, hand, way):
    """How numbers are measured ahead of the hand and behind it: (of x, of y, rest of x, rest of y) for each.

    u and v, the same on both sides, make the PAIR (u * of x + rest of x, v * of y + rest of y).
    """
    one, other, put, side = machine.rows[hand]
    figures, square = machine.figures, machine.figures * machine.figures
    short = (figures, figures, one, other)
    long = (square, 1, put, 0) if side == "right" else (1, square, 0, put)
    return (short, long) if way == 1 else (long, short)


def _fits(scale, pair):
    of_x, of_y, rest_x, rest_y = scale
    return pair[0] % of_x == rest_x and pair[1] % of_y == rest_y


def _lacking(scale, form):
    """The first of the FORM that does not fit the scale; None if all does."""
    ts, p, q = form
    if p % scale[0] != 0:
        return ("x", p)
    if q % scale[1] != 0:
        return ("y", q)
    for pair, _ in ts:
        if not _fits(scale, pair):
            return ("t", pair)
    return None


def _measured(scales, pair):
    """What the PAIR that fits the first of both scales becomes by the other one."""
    here, there = scales
    return (pair[0] // here[0] * there[0] + there[2], pair[1] // here[1] * there[1] + there[3])


def pair_passed(machine, hand, pair, way):
    """By which PAIR t is moved behind the hand, that was moved by this one; None if it does not go by."""
    scales = _scales(machine, hand, way)
    return _measured(scales, pair) if _fits(scales[0], pair) else None


def form_passed(machine, hand, form, way):
    """What passed tells, the values being checked."""
    scales = _scales(machine, hand, way)
    here, there = scales
    if _lacking(here, form) is not None:
        return None
    ts, p, q = form
    # Unlike PAIRS stay unlike, so neighbours stay apart.
    moved_ts = tuple([(_measured(scales, pair), power) for pair, power in ts])
    return (moved_ts, p // here[0] * there[0], q // here[1] * there[1])


def hand_number(letter):
    return int(letter[1:])


class OpenTower:
    """The TOWER of a word that is put syllable by syllable; the last one of its forms is open."""

    def __init__(self, machine):
        self.machine = machine
        self.forms = [OpenForm()]
        self.steps = []

    def put(self, letter, power):
        """Put a syllable of any letter but k behind."""
        if letter in GROUND_LETTERS:
            self.forms[-1].put(letter, power)
            return
        gone_by = self.pinched(letter, power)
        if gone_by is None:
            self.steps.append((letter, power))
            self.forms.append(OpenForm())
        else:
            self.steps.pop()
            self.forms.pop()
            self.forms[-1].put_form(gone_by)

    def pinched(self, letter, power):
        """What the last FORM becomes if this STEP, being put, lets it go by; None if it does not."""
        if not self.steps or self.steps[-1] != (letter, -power):
            return None
        return form_passed(self.machine, hand_number(letter), self.forms[-1].told(), power)

    def told(self):
        """The TOWER as it is now."""
        parts = [self.forms[0].told()]
        for step, form in zip(self.steps, self.forms[1:]):
            parts.append(step)
            parts.append(form.told())
        return tuple(parts)


def tower(machine, word):
    """The TOWER that is alike to the word, made from its syllables in sequence."""
    check_no_k(machine, word)
    return told_tower(machine, word)


def told_tower(machine, word):
    """The word's TOWER, the values being checked."""
    made = OpenTower(machine)
    for letter, power in word:
        made.put(letter, power)
    return made.told()


def is_tower(machine, value):
    """Whether any value is a TOWER of the machine."""
    if not isinstance(value, tuple) or len(value) % 2 == 0:
        return False
    forms, steps = value[::2], value[1::2]
    if not all([is_form(part) for part in forms]) or not all([_is_step(machine, part) for part in steps]):
        return False
    pinches = [_is_pinch(machine, one, form, other) for one, form, other in zip(steps, forms[1:], steps[1:])]
    return not any(pinches)


def _is_step(machine, value):
    return is_word(machine, (value,)) and value[0].startswith("h")


def _is_pinch(machine, step, form, other):
    """Whether both STEPS can go out as the FORM between them goes by."""
    letter, power = other
    return step == (letter, -power) and form_passed(machine, hand_number(letter), form, power) is not None


def _check_tower(machine, tower):
    check_machine(machine)
    if not is_tower(machine, tower):
        raise BadTower(tower)


def tower_word(machine, tower):
    """The TOWER's word, freed."""
    _check_tower(machine, tower)
    return _word_of_tower(tower)


def _word_of_tower(tower):
    kept = []
    for at, part in enumerate(tower):
        put_word(kept, word_of_form(part) if at % 2 == 0 else (part,))
    return tuple(kept)


def hands_of(machine, tower):
    """The tuple of the TOWER's STEPS."""
    _check_tower(machine, tower)
    return tower[1::2]


def is_empty(machine, word):
    """Whether the word is alike to the empty one."""
    check_no_k(machine, word)
    return comes_to_nothing(machine, word)


def comes_to_nothing(machine, word):
    """What is_empty tells, the values being checked."""
    return told_tower(machine, word) == (NOTHING,)


def alike(machine, one, other):
    """Whether both words are alike."""
    check_no_k(machine, one)
    check_no_k(machine, other)
    return comes_to_nothing(machine, one + undo_word(other))


def why(machine, word):
    """("empty", a PRODUCT for the word) if it is empty, otherwise ("not", a TOWER alike to it)."""
    check_no_k(machine, word)
    told = told_tower(machine, word)
    if told == (NOTHING,):
        return ("empty", emptying(machine, word))
    return ("not", told)


def shows_why(machine, word, value):
    """Whether any value is a right result of why."""
    check_no_k(machine, word)
    if not isinstance(value, tuple) or len(value) != 2:
        return False
    if comes_to_nothing(machine, word):
        return value[0] == "empty" and is_product(machine, word, value[1])
    if value[0] != "not" or not is_tower(machine, value[1]):
        return False
    return comes_to_nothing(machine, word + undo_word(_word_of_tower(value[1])))


def emptying(machine, word):
    """A PRODUCT for the word, which has no k and is empty."""
    scroll, made = Scroll(machine), OpenTower(machine)
    for letter, power in word:
        # Ahead stand the words of the tower's forms, but with y q x p at the end of each, and its steps.
        here = made.forms[-1]
        if letter == "y":
            _turn_y(scroll, here.p, power)
        if made.pinched(letter, power) is None:
            scroll.put(((letter, power),))
        else:
            scroll.put(undo_word(_told_turned(here.told())))
            scroll.put(((letter, power),))
            Pinch(scroll, letter, power).write(here.told(), made.forms[-2].p)
        made.put(letter, power)
    return tuple(scroll.parts)


def _turn_y(scroll, p, power):
    """Let the y with this power that is put next go ahead of the x p that stands last."""
    if p != 0 and power != 0:
        scroll.turn(("xy", -p, power), -1)


def _told_turned(form):
    """The FORM's word, but with y q x p at its end."""
    ts, p, q = form
    return word_of_form((ts, 0, 0)) + (("y", q), ("x", p))


class Pinch:
    """Writes down how a FORM goes by a hand, which stands undone ahead of it; way is the hand's own power."""

    def __init__(self, scroll, letter, way):
        self.scroll = scroll
        self.letter = letter
        self.number = hand_number(letter)
        self.way = way
        self.scales = _scales(scroll.machine, self.number, way)

    def write(self, form, p):
        """Put the FORM, gone by, behind what ends with y and then x p."""
        ts, length, height = form
        here, _ = self.scales
        for pair, power in ts:
            self.write_t(pair, power, p)
        self.write_y(height // here[1], p)
        self.write_x(length // here[0], 0)

    def write_t(self, pair, power, p):
        """Put t, moved by the PAIR and gone by, behind what ends with y and then x p."""
        here, there = self.scales
        u, v = pair[0] // here[0], pair[1] // here[1]
        self.write_y(-v, p)
        self.write_x(-u, here[3])
        between = p - u * there[0]
        _turn_y(self.scroll, between, -there[3])
        self.lead(("t", self.number, power), move_t((here[2], here[3]), power))
        self.scroll.put((("y", -there[3]),))
        _turn_y(self.scroll, between, there[3])
        self.scroll.put((("y", there[3]),))
        self.write_x(u, here[3])
        self.write_y(v, p)

    def write_y(self, times, p):
        """Put so many times the y that goes by, behind what ends with y and then x p."""
        if times != 0:
            here, there = self.scales
            _turn_y(self.scroll, p, times * there[1])
            self.lead(("y", self.number, times), (("y", times * here[1]),))

    def write_x(self, times, y):
        """Put so many times the x that goes by, standing between this y, undone, and itself."""
        if times == 0:
            return
        power = times * self.scales[0][0]
        if y != 0:
            # Behind the first of both hands x goes out of y, so that it stands beside the hand.
            self.scroll.put(((self.letter, -self.way),))
            self.scroll.turn(("xy", power, -y), -1)
            self.scroll.put((("y", -y), ("x", power), ("y", y), ("x", -power), (self.letter, self.way)))
        self.lead(("x", self.number, times), (("x", power),))

    def lead(self, row, word):
        """Put what the word becomes by this row, as it goes by the hand."""
        undoing = ((self.letter, -self.way),)
        # The row's word begins with the hand undone. So if that comes first here, the row is moved by what is ahead
        # of it; if the hand itself comes first, the row is moved by this, too.
        if self.way == -1:
            self.scroll.put(undoing)
            self.scroll.turn(row, -1)
        else:
            self.scroll.turn(row, 1)
            self.scroll.put(undoing)
        self.scroll.put(word + ((self.letter, self.way),))
