"""Section 6: led, pairs_of, standing_of, run_led, ends_with."""

import itertools
import unittest

from emptywords import pairs, strips
from emptywords.errors import BadMost, BadPair, BadStanding, NoStrip
from emptywords.leading import ends_with, led, pairs_of, run_led, standing_of
from emptywords.pairs import Machine
from emptywords.strips import Strip
from tests.helping import SMALL, SWING, WIPE, StrictCase, any_values, sides, standings

MIXED = "marks 3\nstates 2\nrow 1 2 0 left end\nrow 0 0 2 right 1\nrow 1 0 1 left 0\nrow 0 2 0 right 0"
FULL = "\n".join([
    "marks 2\nstates 4\nrow 3 1 1 left 0\nrow 3 0 0 right end\nrow 0 1 0 left 2\nrow 0 0 1 right 3",
    "row 2 0 1 left 1\nrow 1 1 1 right 3\nrow 2 1 0 right 0\nrow 1 0 1 left end",
])
WIDE = "marks 3\nstates 4\nrow 3 2 2 right end\nrow 0 2 1 left 3\nrow 3 0 2 left 0\nrow 1 1 0 right 2\nrow 2 1 1 left 1"
THREE = "marks 2\nstates 3\nrow 2 1 0 right 2\nrow 2 0 0 left end\nrow 0 1 1 right 1\nrow 1 1 0 left 2\nrow 1 0 1 right 0"
ONE = "marks 3\nstates 1\nrow 0 2 1 left 0\nrow 0 0 0 right end\nrow 0 1 0 right 0"
TEXTS = (WIPE, SWING, MIXED, FULL, WIDE, THREE, ONE)


def value_of(base, figures):
    return sum(figure * base ** place for place, figure in enumerate(figures))


def both(strip, standing):
    """The two PAIRS, each figure times its power of the base."""
    state, left, right = standing
    base, head = strip.marks + strip.states + 1, right[0] if right else 0
    one = (value_of(base, [strip.marks + state, *left]), value_of(base, right))
    return (one, (value_of(base, [head, *left]), value_of(base, [strip.marks + state, *right[1:]])))


class Led(StrictCase):
    def test_one_state_and_two_marks(self):
        told = led(Strip(WIPE))
        self.assertIs(type(told), Machine)
        self.same(told.text, "figures 4\nrow 2 0 3 left\nrow 0 2 3 left\nrow 2 1 2 right\nrow 1 2 2 right\n"
                             "row 3 0 0 right\nrow 0 3 0 right")

    def test_two_states_and_three_marks(self):
        told = led(Strip(MIXED))
        self.same(told.figures, 6)
        self.same(told.rows, (
            (3, 0, 16, "right"), (0, 3, 16, "right"), (3, 2, 3, "right"), (2, 3, 3, "right"),
            (4, 0, 9, "left"), (0, 4, 9, "left"), (4, 2, 5, "left"), (2, 4, 5, "left"),
            (5, 0, 0, "right"), (0, 5, 0, "right"),
        ))

    def test_four_states_and_two_marks(self):
        told = led(Strip(FULL))
        self.same(told.figures, 7)
        self.same(told.rows, (
            (2, 0, 12, "right"), (0, 2, 12, "right"), (2, 1, 4, "left"), (1, 2, 4, "left"),
            (3, 0, 13, "left"), (0, 3, 13, "left"), (3, 1, 12, "right"), (1, 3, 12, "right"),
            (4, 0, 10, "left"), (0, 4, 10, "left"), (4, 1, 2, "right"), (1, 4, 2, "right"),
            (5, 0, 6, "right"), (0, 5, 6, "right"), (5, 1, 9, "left"), (1, 5, 9, "left"),
            (6, 0, 0, "right"), (0, 6, 0, "right"),
        ))

    def test_four_states_and_three_marks(self):
        told = led(Strip(WIDE))
        self.same(told.figures, 8)
        self.same(told.rows, (
            (3, 2, 14, "left"), (2, 3, 14, "left"), (4, 1, 5, "right"), (1, 4, 5, "right"),
            (5, 1, 12, "left"), (1, 5, 12, "left"), (6, 0, 19, "left"), (0, 6, 19, "left"),
            (6, 2, 23, "right"), (2, 6, 23, "right"), (7, 0, 0, "right"), (0, 7, 0, "right"),
        ))

    def test_row_by_row(self):
        for text in TEXTS:
            strip = Strip(text)
            base, wanted = strip.marks + strip.states + 1, []
            for state, mark in itertools.product(range(strip.states), range(strip.marks)):
                for row in strip.rows:
                    if row[:2] == (state, mark):
                        put = row[2] * base + strip.marks + row[4]
                        wanted.append((strip.marks + state, mark, put, row[3]))
                        wanted.append((mark, strip.marks + state, put, row[3]))
            wanted += [(base - 1, 0, 0, "right"), (0, base - 1, 0, "right")]
            self.same((led(strip).figures, led(strip).rows), (base, tuple(wanted)))

    def test_the_sequence_of_rows_does_not_matter(self):
        lines = THREE.split("\n")
        for rows in itertools.permutations(lines[2:]):
            self.assertEqual(led(Strip("\n".join([*lines[:2], *rows]))), led(Strip(THREE)))


class PairsOf(StrictCase):
    def test_nothing_to_the_left(self):
        self.same(pairs_of(Strip(WIPE), (0, (), (1, 1))), ((2, 5), (1, 6)))
        self.same(pairs_of(Strip(MIXED), (1, (), (2, 0, 1))), ((4, 2 + 36), (2, 4 + 36)))

    def test_nothing_to_the_right(self):
        self.same(pairs_of(Strip(WIPE), (0, (1, 1), ())), ((2 + 4 + 16, 0), (4 + 16, 2)))
        self.same(pairs_of(Strip(MIXED), (0, (2,), ())), ((3 + 12, 0), (12, 3)))

    def test_nothing_at_all(self):
        self.same(pairs_of(Strip(WIPE), (0, (), ())), ((2, 0), (0, 2)))
        self.same(pairs_of(Strip(FULL), (3, (), ())), ((5, 0), (0, 5)))

    def test_blanks_between_marks_and_under_the_head(self):
        self.same(pairs_of(Strip(WIPE), (0, (0, 0, 1), (0, 1, 0, 1))), ((2 + 64, 4 + 64), (64, 2 + 4 * (1 + 16))))
        self.same(pairs_of(Strip(WIPE), (0, (1,), (1, 0, 1))), ((6, 17), (5, 18)))

    def test_at_the_end(self):
        self.same(pairs_of(Strip(WIPE), (1, (), ())), ((3, 0), (0, 3)))
        self.same(pairs_of(Strip(MIXED), (2, (1,), (0, 2))), ((5 + 6, 12), (6, 5 + 12)))

    def test_all_small_standings(self):
        for text in TEXTS:
            strip = Strip(text)
            for standing in standings(strip, 2 if strip.marks == 3 else 3):
                self.same(pairs_of(strip, standing), both(strip, standing))

    def test_many_marks(self):
        left, right = (0, 1) * 300, (1, 0, 1) * 200
        self.same(pairs_of(Strip(WIPE), (0, left, right)), both(Strip(WIPE), (0, left, right)))


class StandingOf(StrictCase):
    def test_both_pairs_are_led_back(self):
        for text in TEXTS:
            strip = Strip(text)
            for standing in standings(strip, 2 if strip.marks == 3 else 3) + [(0, (0, 1) * 200, (1, 0, 1) * 100)]:
                for pair in pairs_of(strip, standing):
                    self.same(standing_of(strip, pair), standing)

    def test_all_small_pairs(self):
        for text in TEXTS:
            strip = Strip(text)
            # Below 64 no number has more than three figures.
            told = {pair: place for place in standings(strip, 3) for pair in both(strip, place)}
            for pair in itertools.product(range(-2, 64), range(-2, 64)):
                self.same(standing_of(strip, pair), told.get(pair))

    def test_none(self):
        wipe = Strip(WIPE)
        for pair in (
            (2, 6), (2, 2), (3, 2), (10, 1), (2 + 4 * 2, 0), (1, 2 + 4 * 3),
            (0, 0), (1, 1), (5, 0), (0, 21),
            (1 + 4 * 2, 1), (1, 1 + 4 * 2), (1 + 4 * 3, 0), (0, 4 * 2), (2, 8),
            (-1, 0), (0, -1), (-2, 5), (2, -3), (-1, -1), (-(4 ** 50), 2),
        ):
            self.assertIsNone(standing_of(wipe, pair), pair)
        self.assertIsNone(standing_of(wipe, (2, 4 ** 2000 * 2)))
        self.assertIsNone(standing_of(Strip(MIXED), (3, 6 * 5)))

    def test_figures_are_those_of_the_strip(self):
        self.same(standing_of(Strip(WIPE), (2, 0)), (0, (), ()))
        self.assertIsNone(standing_of(Strip(ONE), (2, 0)))
        self.same(standing_of(Strip(ONE), (2, 3)), (0, (), (2,)))
        self.same(standing_of(Strip(ONE), (4, 2)), (1, (), (2,)))


class Steps(StrictCase):
    """Behind each step of the STRIP is one of the MACHINE."""

    def test_each_step(self):
        for text in TEXTS:
            strip = Strip(text)
            machine = led(strip)
            for standing in standings(strip, 2 if strip.marks == 3 else 3):
                behind = strips.follows(strip, standing)
                for pair in pairs_of(strip, standing):
                    then = pairs.follows(machine, pair)
                    if behind is not None:
                        self.assertIn(then, pairs_of(strip, behind))
                        self.same(standing_of(strip, then), behind)
                    elif standing[0] < strip.states:
                        self.assertIsNone(then)

    def test_at_the_end(self):
        for text in TEXTS:
            strip = Strip(text)
            machine = led(strip)
            for left, right in itertools.product(sides(strip.marks, 2), repeat=2):
                for pair in pairs_of(strip, (strip.states, left, right)):
                    self.assertEqual(pairs.follows(machine, pair) == (0, 0), (left, right) == ((), ()))
                    self.assertEqual(pairs.comes(machine, pair, 9)[0] == "ends", (left, right) == ((), ()))


class RunLed(StrictCase):
    def test_as_many_as_there_are(self):
        whole = ((2, 5), (2, 1), (2, 0), (0, 3), (0, 0))
        for most in (1, 2, 3, 4, 5, 6, 400):
            self.same(run_led(Strip(WIPE), (0, (), (1, 1)), most), whole[:most])
        self.same(run_led(Strip(WIPE), (1, (), (1,)), 9), ((3, 1),))
        self.same(len(run_led(Strip(SWING), (0, (), ()), 400)), 400)

    def test_the_run_of_the_first_pair(self):
        for text in TEXTS:
            strip = Strip(text)
            for standing in standings(strip, 1):
                for most in (1, 2, 12):
                    first = both(strip, standing)[0]
                    self.same(run_led(strip, standing, most), pairs.run(led(strip), first, most))


class EndsWith(StrictCase):
    def test_ends(self):
        wipe = Strip(WIPE)
        for ones in (0, 1, 2, 7):
            standing, steps = (0, (), (1,) * ones), ones + 1
            for most in (steps, steps + 1, steps + 2, 400):
                self.same(strips.fate(wipe, standing, most), ("clean", steps))
            for most in (steps + 1, steps + 2, 400):
                self.same(ends_with(wipe, standing, most), ("ends", steps + 1))
            self.same(ends_with(wipe, standing, steps), ("open", (0, 3)))
        for most in (1, 400):
            self.same(ends_with(wipe, (1, (), ()), most), ("ends", 1))

    def test_at_the_most_of_all(self):
        wipe = Strip(WIPE)
        self.same(strips.fate(wipe, (0, (), (1,) * 398), 399), ("clean", 399))
        self.same(ends_with(wipe, (0, (), (1,) * 398), 400), ("ends", 400))
        self.same(ends_with(wipe, (0, (), (1,) * 398), 399), ("open", (0, 3)))
        self.same(ends_with(wipe, (0, (), (1,) * 399), 400), ("open", (0, 3)))

    def test_never(self):
        wipe = Strip(WIPE)
        self.same(ends_with(wipe, (0, (1,), (1, 0, 1)), 20), ("never", "stops", 3))
        self.same(ends_with(wipe, (1, (1,), ()), 1), ("never", "stops", 1))
        self.same(ends_with(wipe, (1, (), (1,)), 1), ("never", "stops", 0))

    def test_round(self):
        # The STANDING comes again behind 4 steps, but in the other way; so its PAIR does not.
        swing = Strip(SWING)
        self.same(strips.fate(swing, (0, (), ()), 4), ("round", 0, 4))
        self.same(ends_with(swing, (0, (), ()), 4), ("open", (0, 2)))
        self.same(ends_with(swing, (0, (), ()), 5), ("never", "round", 1, 4))

    def test_beside_fate(self):
        for text in TEXTS:
            strip = Strip(text)
            for standing in standings(strip, 2):
                told = strips.fate(strip, standing, 20)
                for most in (1, 2, 3, 4, 5, 8, 21):
                    here = ends_with(strip, standing, most)
                    clean = told[0] == "clean" and told[1] + 1 <= most
                    self.assertEqual(here == ("ends", told[1] + 1), clean)
                    self.assertEqual(here[0] == "ends", clean)
                    self.same(here, pairs.comes(led(strip), both(strip, standing)[0], most))


class Wrong(StrictCase):
    standing = (0, (1,), (0, 1))
    bad_standings = [
        (0,), (0, ()), [0, (), ()], (2, (), ()), (-1, (), ()), (True, (), ()), (0, [], ()), (0, (), []), (0, (0,), ()),
        (0, (), (1, 0)), (0, (2,), ()), (0, (), (-1,)), (0, (True,), ()), (0, (), ("1",)), (0, (), (), ()),
    ]
    bad_mosts = [0, -1, 401, True, False, None, "5", (5,), [5], {}, Strip(WIPE), Machine(SMALL)]

    def test_no_strip(self):
        for wrong in any_values():
            if not isinstance(wrong, Strip):
                self.refused(NoStrip, wrong, led, wrong)
                for standing, most in ((self.standing, 9), ([], 0)):
                    self.refused(NoStrip, wrong, pairs_of, wrong, standing)
                    self.refused(NoStrip, wrong, run_led, wrong, standing, most)
                    self.refused(NoStrip, wrong, ends_with, wrong, standing, most)
                for pair in ((2, 5), None):
                    self.refused(NoStrip, wrong, standing_of, wrong, pair)

    def test_no_standing(self):
        for wrong in any_values() + self.bad_standings:
            self.refused(BadStanding, wrong, pairs_of, Strip(WIPE), wrong)
            for most in (9, 0, None):
                self.refused(BadStanding, wrong, run_led, Strip(WIPE), wrong, most)
                self.refused(BadStanding, wrong, ends_with, Strip(WIPE), wrong, most)

    def test_no_pair(self):
        for wrong in any_values() + [[2, 5], (2,), (2, 5, 0), (True, 5), (2, False), (2, "5"), (None, 5), ((2,), 5)]:
            self.refused(BadPair, wrong, standing_of, Strip(WIPE), wrong)

    def test_no_most(self):
        for wrong in self.bad_mosts:
            for standing in (self.standing, (1, (), ())):
                self.refused(BadMost, wrong, run_led, Strip(WIPE), standing, wrong)
                self.refused(BadMost, wrong, ends_with, Strip(WIPE), standing, wrong)

    def test_by_names(self):
        wipe = Strip(WIPE)
        self.assertEqual(led(strip=wipe), led(wipe))
        self.same(pairs_of(standing=self.standing, strip=wipe), pairs_of(wipe, self.standing))
        self.same(standing_of(pair=(2, 5), strip=wipe), (0, (), (1, 1)))
        self.same(run_led(most=3, standing=self.standing, strip=wipe), run_led(wipe, self.standing, 3))
        self.same(ends_with(most=3, standing=self.standing, strip=wipe), ends_with(wipe, self.standing, 3))


if __name__ == "__main__":
    unittest.main()
