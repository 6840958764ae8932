"""Pair machines: two integers go on by the rests that they leave."""

from emptywords.basics import SIDES, check_most, check_pair, gone, good_rows, numerals, outcome, told_number
from emptywords.errors import BadMachine, NoMachine


class Machine:
    """A pair machine, read from its text; rows are (A, B, C, side)."""

    def __init__(self, text):
        if not isinstance(text, str):
            raise BadMachine(0)
        lines = text.split("\n")
        self.text = text
        self.figures = _told_figures(lines[0])
        self.rows = _told_rows(lines, self.figures)

    def __eq__(self, other):
        return isinstance(other, Machine) and self.text == other.text


def _told_figures(line):
    told = told_number(line, "figures", 2, 9)
    if told is None:
        raise BadMachine(1)
    return told


def _told_rows(lines, figures):
    rests = numerals(0, figures - 1)
    kinds = [["row"], rests, rests, numerals(0, figures * figures - 1), SIDES]
    # By (0, 0), the end of all runs, no row may go.
    rows = good_rows(lines[1:], kinds, ((0, 0),))
    # Ahead of the line at fault stand the head and the good rows; if none is at fault, all lines do.
    if not rows or len(rows) < len(lines) - 1:
        raise BadMachine(len(rows) + 2)
    return tuple([(one, other, put, SIDES[side]) for _, one, other, put, side in rows])


def check_machine(machine):
    if not isinstance(machine, Machine):
        raise NoMachine(machine)


def goes(machine, pair):
    """The number of the row that goes by the PAIR; None if none does."""
    check_machine(machine)
    check_pair(pair)
    return _row_number(machine, pair)


def follows(machine, pair):
    """The PAIR that follows; None if nothing does."""
    check_machine(machine)
    check_pair(pair)
    return _behind(machine, pair)


def backs(machine, pair):
    """The ascending tuple of all PAIRS that this one follows."""
    check_machine(machine)
    check_pair(pair)
    found = [_ahead(machine.figures, row, pair) for row in machine.rows]
    return tuple(sorted([place for place in found if place is not None]))


def run(machine, pair, most):
    """The tuple of the PAIRS from this one on, at most most."""
    check_machine(machine)
    check_pair(pair)
    check_most(most)
    return gone(lambda place: _behind(machine, place), pair, most)


def comes(machine, pair, most):
    """What becomes of the PAIR within most steps: "ends", "never" with the reason, or "open"."""
    check_machine(machine)
    check_pair(pair)
    check_most(most)
    if pair[0] < 0 or pair[1] < 0:
        return ("never", "below")
    told = outcome(lambda place: _behind(machine, place), pair, most)
    if told[0] == "on":
        return ("open", told[1])
    if told[0] == "round":
        return ("never", "round", told[1], told[2])
    if told[2] == (0, 0):
        return ("ends", told[1])
    return ("never", "stops", told[1])


def _row_number(machine, pair):
    rests = (pair[0] % machine.figures, pair[1] % machine.figures)
    for number, row in enumerate(machine.rows):
        if row[:2] == rests:
            return number
    return None


def _behind(machine, pair):
    """What follows, the values being checked."""
    number = _row_number(machine, pair)
    if number is None:
        return None
    _, _, put, side = machine.rows[number]
    one, other = pair[0] // machine.figures, pair[1] // machine.figures
    square = machine.figures * machine.figures
    if side == "right":
        return (one * square + put, other)
    return (one, other * square + put)


def _ahead(figures, row, pair):
    """The PAIR from which this row leads to this one; None if there is none."""
    rest, other_rest, put, side = row
    one, other = pair
    square = figures * figures
    grown = one if side == "right" else other
    if grown % square != put:
        return None
    if side == "right":
        one = one // square
    else:
        other = other // square
    return (one * figures + rest, other * figures + other_rest)
