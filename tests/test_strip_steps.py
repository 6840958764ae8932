"""Section 4: follows, run, fate, backs."""

import itertools
import unittest

from emptywords.strips import Strip, backs, fate, follows, run
from tests.helping import SWING, WIPE, StrictCase, standings

WIDE = "marks 3\nstates 2\nrow 0 0 2 right 1\nrow 0 1 0 left 0\nrow 0 2 1 left end\nrow 1 0 1 left 0\nrow 1 2 0 right 1"
MERGE = "marks 2\nstates 2\nrow 0 0 1 right 1\nrow 0 1 1 right 1\nrow 1 1 1 left 1\nrow 1 0 0 left end"
GROW = "marks 2\nstates 1\nrow 0 0 1 right 0"
BUSY = "marks 2\nstates 2\nrow 0 0 1 right 1\nrow 0 1 1 left 1\nrow 1 0 1 left 0\nrow 1 1 1 right end"
LATE = "marks 2\nstates 2\nrow 0 1 0 right 0\nrow 0 0 0 right 1\nrow 1 0 0 left 0"
TEXTS = (WIPE, SWING, WIDE, MERGE, GROW, BUSY, LATE)


def read_side(cells, numbers):
    marks = [cells.get(number, 0) for number in numbers]
    while marks and marks[-1] == 0:
        marks.pop()
    return tuple(marks)


def stepped(strip, standing):
    """One step, done on a strip of numbered cells with the head at 0."""
    state, left, right = standing
    cells = {number: mark for number, mark in enumerate(right)}
    cells.update({-1 - number: mark for number, mark in enumerate(left)})
    table = {row[:2]: row[2:] for row in strip.rows}
    if (state, cells.get(0, 0)) not in table:
        return None
    cells[0], side, then = table[state, cells.get(0, 0)]
    head = 1 if side == "right" else -1
    far = len(left) + len(right) + 3
    return (then, read_side(cells, range(head - 1, -far, -1)), read_side(cells, range(head, far)))


class Follows(StrictCase):
    def test_one_step_each(self):
        wide = Strip(WIDE)
        self.same(follows(wide, (0, (1,), (0, 2))), (1, (2, 1), (2,)))
        self.same(follows(wide, (0, (2, 1), (1, 0, 2))), (0, (1,), (2, 0, 0, 2)))
        self.same(follows(wide, (1, (), (2, 1))), (1, (), (1,)))
        self.same(follows(wide, (0, (0, 1), (2,))), (2, (1,), (0, 1)))

    def test_blanks_at_the_far_ends_are_left_out(self):
        wipe, wide = Strip(WIPE), Strip(WIDE)
        self.same(follows(wipe, (0, (), (1, 1))), (0, (), (1,)))
        self.same(follows(wipe, (0, (), (1,))), (0, (), ()))
        self.same(follows(wipe, (0, (), ())), (1, (), ()))
        self.same(follows(wipe, (0, (0, 1), ())), (1, (1,), ()))
        self.same(follows(wipe, (0, (1,), ())), (1, (), (1,)))
        self.same(follows(wide, (0, (), (1,))), (0, (), ()))
        self.same(follows(wide, (1, (0, 1), (2, 0, 1))), (1, (0, 0, 1), (0, 1)))

    def test_nothing_follows_at_the_end(self):
        for text in TEXTS:
            strip = Strip(text)
            for standing in standings(strip, 2):
                if standing[0] == strip.states:
                    self.assertIsNone(follows(strip, standing))

    def test_nothing_follows_where_no_row_fits(self):
        self.assertIsNone(follows(Strip(SWING), (1, (), (1,))))
        self.assertIsNone(follows(Strip(WIDE), (1, (2,), (1, 1))))
        self.assertIsNone(follows(Strip(GROW), (0, (), (1,))))

    def test_all_small_standings(self):
        for text in TEXTS:
            strip = Strip(text)
            for standing in standings(strip, 3 if strip.marks == 2 else 2):
                self.same(follows(strip, standing), stepped(strip, standing))

    def test_the_sequence_of_rows_does_not_matter(self):
        lines = WIDE.split("\n")
        other = Strip("\n".join(lines[:2] + lines[:1:-1]))
        for standing in standings(other, 2):
            self.same(follows(other, standing), follows(Strip(WIDE), standing))
            self.same(backs(other, standing), backs(Strip(WIDE), standing))


class Run(StrictCase):
    def test_as_many_as_there_are(self):
        wipe = Strip(WIPE)
        whole = ((0, (1,), (1, 1)), (0, (0, 1), (1,)), (0, (0, 0, 1), ()), (1, (0, 1), ()))
        for most in (4, 5, 400):
            self.same(run(wipe, whole[0], most), whole)
        for most in (1, 2, 3):
            self.same(run(wipe, whole[0], most), whole[:most])

    def test_one_alone(self):
        for most in (1, 2, 400):
            self.same(run(Strip(WIPE), (1, (1,), ()), most), ((1, (1,), ()),))
            self.same(run(Strip(SWING), (1, (), (1,)), most), ((1, (), (1,)),))

    def test_most_1_and_400(self):
        grow = Strip(GROW)
        self.same(run(grow, (0, (), ()), 1), ((0, (), ()),))
        self.same(run(grow, (0, (), ()), 400), tuple((0, (1,) * steps, ()) for steps in range(400)))

    def test_round_and_round(self):
        swing = Strip(SWING)
        once = ((0, (), ()), (1, (1,), ()), (0, (), (1,)), (1, (), ()))
        self.same(run(swing, (0, (), ()), 400), once * 100)

    def test_each_follows_the_one_ahead(self):
        for text in TEXTS:
            strip = Strip(text)
            for standing in standings(strip, 2):
                told = run(strip, standing, 12)
                self.same(told[0], standing)
                for here, behind in zip(told, told[1:]):
                    self.same(behind, stepped(strip, here))
                self.assertTrue(len(told) == 12 or stepped(strip, told[-1]) is None)


class Fate(StrictCase):
    def test_clean(self):
        wipe = Strip(WIPE)
        self.same(fate(wipe, (0, (), (1, 1, 1)), 3), ("on", (0, (), ())))
        for most in (4, 5, 400):
            self.same(fate(wipe, (0, (), (1, 1, 1)), most), ("clean", 4))
        for most in (1, 400):
            self.same(fate(wipe, (1, (), ()), most), ("clean", 0))
            self.same(fate(wipe, (0, (), ()), most), ("clean", 1))

    def test_clean_at_the_most_of_all(self):
        wipe = Strip(WIPE)
        self.same(fate(wipe, (0, (), (1,) * 399), 400), ("clean", 400))
        self.same(fate(wipe, (0, (), (1,) * 399), 399), ("on", (0, (), ())))
        self.same(fate(wipe, (0, (), (1,) * 400), 400), ("on", (0, (), ())))
        self.same(fate(wipe, (0, (), (1,) * 500), 400), ("on", (0, (), (1,) * 100)))

    def test_stops_at_the_end_with_something_on_the_strip(self):
        wipe = Strip(WIPE)
        self.same(fate(wipe, (0, (1,), ()), 1), ("stops", 1, (1, (), (1,))))
        self.same(fate(wipe, (0, (0, 0, 1), (1, 1)), 2), ("on", (0, (0, 0, 0, 0, 1), ())))
        for most in (3, 4, 400):
            self.same(fate(wipe, (0, (0, 0, 1), (1, 1)), most), ("stops", 3, (1, (0, 0, 0, 1), ())))
        self.same(fate(wipe, (1, (), (1,)), 1), ("stops", 0, (1, (), (1,))))
        self.same(fate(wipe, (1, (1,), ()), 1), ("stops", 0, (1, (1,), ())))

    def test_stops_where_no_row_fits(self):
        swing = Strip(SWING)
        for most in (1, 400):
            self.same(fate(swing, (1, (), (1,)), most), ("stops", 0, (1, (), (1,))))
            self.same(fate(swing, (0, (), (1, 1)), most), ("stops", 1, (1, (), (1,))))
        blank = Strip("marks 2\nstates 2\nrow 0 0 0 right 1")
        self.same(fate(blank, (0, (), ()), 5), ("stops", 1, (1, (), ())))
        self.same(fate(blank, (1, (), ()), 5), ("stops", 0, (1, (), ())))

    def test_round(self):
        swing = Strip(SWING)
        places = ((0, (), ()), (1, (1,), ()), (0, (), (1,)), (1, (), ()))
        for most in (1, 2, 3):
            self.same(fate(swing, (0, (), ()), most), ("on", places[most]))
        for most in (4, 5, 400):
            self.same(fate(swing, (0, (), ()), most), ("round", 0, 4))
            self.same(fate(swing, places[2], most), ("round", 0, 4))

    def test_round_behind_some_steps(self):
        late = Strip(LATE)
        self.same(run(late, (0, (), (1, 1)), 6)[2:], ((0, (), ()), (1, (), ()), (0, (), ()), (1, (), ())))
        self.same(fate(late, (0, (), (1, 1)), 3), ("on", (1, (), ())))
        for most in (4, 5, 400):
            self.same(fate(late, (0, (), (1, 1)), most), ("round", 2, 2))
        self.same(fate(late, (0, (), (1,) * 398), 400), ("round", 398, 2))
        self.same(fate(late, (0, (), (1,) * 399), 400), ("on", (1, (), ())))

    def test_on(self):
        grow = Strip(GROW)
        for most in (1, 2, 399, 400):
            self.same(fate(grow, (0, (), ()), most), ("on", (0, (1,) * most, ())))

    def test_the_first_that_fits_of_all_small_standings(self):
        for text in TEXTS:
            strip = Strip(text)
            for standing, most in itertools.product(standings(strip, 2), (1, 2, 3, 4, 5, 9)):
                self.same(fate(strip, standing, most), self.looked(strip, standing, most))

    def looked(self, strip, standing, most):
        stood = []
        for steps in range(most + 1):
            if standing == (strip.states, (), ()):
                return ("clean", steps)
            if stepped(strip, standing) is None:
                return ("stops", steps, standing)
            if standing in stood:
                return ("round", stood.index(standing), steps - stood.index(standing))
            stood.append(standing)
            standing = stepped(strip, standing)
        return ("on", stood[most])


class Backs(StrictCase):
    def test_none(self):
        self.same(backs(Strip(WIPE), (0, (1,), ())), ())
        self.same(backs(Strip(WIPE), (1, (1,), (1, 1))), ())
        self.same(backs(Strip(GROW), (1, (), ())), ())

    def test_one(self):
        self.same(backs(Strip(WIPE), (0, (), (1,))), ((0, (), (1, 1)),))
        self.same(backs(Strip(WIPE), (1, (), (1,))), ((0, (1,), ()),))
        self.same(backs(Strip(WIPE), (1, (), ())), ((0, (), ()),))
        self.same(backs(Strip(GROW), (0, (1, 0, 1), (1,))), ((0, (0, 1), (0, 1)),))

    def test_several(self):
        merge = Strip(MERGE)
        self.same(backs(merge, (1, (1,), (1, 1))), ((0, (), (0, 1, 1)), (0, (), (1, 1, 1)), (1, (1, 1), (1,))))
        wide = Strip(WIDE)
        self.same(backs(wide, (0, (), (1,))), ((0, (1,), (1,)),))
        self.same(backs(wide, (0, (2,), (0, 1))), ((1, (0, 2), ()),))
        self.same(backs(wide, (1, (0, 1), ())), ((1, (1,), (2,)),))

    def test_ascending_whatever_the_sequence_of_rows(self):
        lines = MERGE.split("\n")
        for rows in itertools.permutations(lines[2:]):
            merge = Strip("\n".join([*lines[:2], *rows]))
            self.same(backs(merge, (1, (1,), (1, 1))), ((0, (), (0, 1, 1)), (0, (), (1, 1, 1)), (1, (1, 1), (1,))))

    def test_blanks_at_the_far_ends_are_left_out(self):
        self.same(backs(Strip(SWING), (0, (), ())), ((1, (), ()),))
        self.same(backs(Strip(SWING), (1, (), (1,))), ((0, (), (1, 1)),))
        late = Strip("marks 2\nstates 2\nrow 0 1 0 left 1\nrow 0 0 0 left 1")
        self.same(backs(late, (1, (), ())), ((0, (), ()), (0, (), (1,))))
        self.same(backs(late, (1, (1,), ())), ((0, (0, 1), ()), (0, (0, 1), (1,))))
        self.same(backs(late, (1, (), (1,))), ((0, (1,), ()), (0, (1,), (1,))))

    def test_all_that_small_standings_follow(self):
        for text in (WIPE, SWING, MERGE, GROW, BUSY, LATE):
            strip = Strip(text)
            ahead = {}
            for standing in standings(strip, 3):
                ahead.setdefault(stepped(strip, standing), []).append(standing)
            for standing in standings(strip, 2):
                self.same(backs(strip, standing), tuple(sorted(ahead.get(standing, []))))

    def test_each_is_followed_by_the_standing(self):
        for text in TEXTS:
            strip = Strip(text)
            for standing in standings(strip, 2):
                told = backs(strip, standing)
                self.same(told, tuple(sorted(set(told))))
                for place in told:
                    self.same(follows(strip, place), standing)
                behind = follows(strip, standing)
                self.assertTrue(behind is None or standing in backs(strip, behind))


if __name__ == "__main__":
    unittest.main()
