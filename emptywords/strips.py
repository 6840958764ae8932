"""Strip machines: a head that goes along a strip of cells by a table of rows."""

from emptywords.basics import SIDES, check_most, gone, good_rows, is_within, numerals, outcome, told_number
from emptywords.errors import BadStanding, BadStrip, NoStrip


class Strip:
    """A strip machine, read from its text; rows are (Q, A, B, side, P), the end being state S."""

    def __init__(self, text):
        if not isinstance(text, str):
            raise BadStrip(0)
        lines = text.split("\n")
        self.text = text
        self.marks = _told_head(lines, 1, "marks", 2, 3)
        self.states = _told_head(lines, 2, "states", 1, 4)
        self.rows = _told_rows(lines, self.marks, self.states)

    def __eq__(self, other):
        return isinstance(other, Strip) and self.text == other.text


def _told_head(lines, number, name, low, high):
    """What is told behind the name by the line with this number, from 1."""
    # A line that is missing here has the number of lines and one, as BadStrip tells it.
    told = told_number(lines[number - 1], name, low, high) if number <= len(lines) else None
    if told is None:
        raise BadStrip(number)
    return told


def _told_rows(lines, marks, states):
    mark_words, state_words = numerals(0, marks - 1), numerals(0, states - 1)
    # So "end" has the place of the end's number, which itself may not be told.
    kinds = [["row"], state_words, mark_words, mark_words, SIDES, state_words + ["end"]]
    rows = good_rows(lines[2:], kinds, ())
    # Ahead of the line at fault stand both heads and the good rows; if none is at fault, all lines do.
    if not rows or len(rows) < len(lines) - 2:
        raise BadStrip(len(rows) + 3)
    return tuple([(state, mark, written, SIDES[side], then) for _, state, mark, written, side, then in rows])


def is_standing(strip, value):
    """Whether any value is a STANDING of this strip."""
    if not isinstance(value, tuple) or len(value) != 3:
        return False
    state, left, right = value
    return is_within(state, 0, strip.states) and _are_marks(strip, left) and _are_marks(strip, right)


def _are_marks(strip, value):
    """Whether any value tells what stands on one side: a tuple of marks, the last one not 0."""
    if not isinstance(value, tuple):
        return False
    if not all([is_within(mark, 0, strip.marks - 1) for mark in value]):
        return False
    return len(value) == 0 or value[-1] != 0


def check_strip(strip):
    if not isinstance(strip, Strip):
        raise NoStrip(strip)


def check_standing(strip, standing):
    """NoStrip for the strip, then BadStanding for the standing."""
    check_strip(strip)
    if not is_standing(strip, standing):
        raise BadStanding(standing)


def follows(strip, standing):
    """The STANDING behind one step; None if there is none."""
    check_standing(strip, standing)
    return _behind(strip, standing)


def run(strip, standing, most):
    """The tuple of the first STANDINGS from this one on, at most most."""
    check_standing(strip, standing)
    check_most(most)
    return gone(lambda place: _behind(strip, place), standing, most)


def fate(strip, standing, most):
    """What becomes of the STANDING within most steps: "clean", "stops", "round" or "on"."""
    check_standing(strip, standing)
    check_most(most)
    told = outcome(lambda place: _behind(strip, place), standing, most)
    if told[0] == "stops" and told[2] == (strip.states, (), ()):
        return ("clean", told[1])
    return told


def backs(strip, standing):
    """The ascending tuple of all STANDINGS that this one follows."""
    check_standing(strip, standing)
    found = [_ahead(row, standing) for row in strip.rows]
    return tuple(sorted([place for place in found if place is not None]))


def _behind(strip, standing):
    """What follows, the values being checked."""
    state, left, right = standing
    for row_state, row_mark, written, side, then in strip.rows:
        if row_state == state and row_mark == first_mark(right):
            if side == "right":
                return (then, trimmed((written,) + left), right[1:])
            return (then, left[1:], trimmed((first_mark(left), written) + right[1:]))
    return None


def _ahead(row, standing):
    """The STANDING from which this row leads to this one; None if there is none."""
    state, mark, written, side, then = row
    here, left, right = standing
    if side == "right":
        cell, left_then, right_then = first_mark(left), left[1:], right
    else:
        cell, left_then, right_then = first_mark(right[1:]), (first_mark(right),) + left, right[2:]
    if here != then or cell != written:
        return None
    return (state, trimmed(left_then), trimmed((mark,) + right_then))


def first_mark(marks):
    """The mark of the first cell; beyond those that are told all are blank."""
    return marks[0] if marks else 0


def trimmed(marks):
    """The marks without the blanks at their far end."""
    end = len(marks)
    while end > 0 and marks[end - 1] == 0:
        end -= 1
    return marks[:end]
