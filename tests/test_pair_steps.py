"""Section 5: goes, follows, backs, run, comes."""

import itertools
import unittest

from emptywords.pairs import Machine, backs, comes, follows, goes, run
from tests.helping import SMALL, StrictCase

RING = "figures 2\nrow 0 1 1 right\nrow 1 0 3 left\nrow 1 1 1 right"
THREE = "figures 3\nrow 1 0 2 right\nrow 0 2 8 left\nrow 2 2 0 left\nrow 2 1 7 right\nrow 0 1 7 right"
NINE = "figures 9\nrow 8 7 80 left\nrow 0 1 0 right\nrow 8 8 8 right\nrow 3 0 44 left"
DOWN = "figures 2\nrow 1 0 0 left\nrow 0 1 0 left"
TEXTS = (SMALL, RING, THREE, NINE, DOWN)

SOME = list(range(-12, 13)) + [80, 81, 99, -81, -82, 10 ** 30, 10 ** 30 + 7, -(10 ** 30) - 1]


def row_by(machine, pair):
    """The number of the row that goes by the pair; rests are found by taking multiples off."""
    fitting = []
    for number, (one, other, _, _) in enumerate(machine.rows):
        if (pair[0] - one) % machine.figures == 0 and (pair[1] - other) % machine.figures == 0:
            fitting.append(number)
    return fitting[0] if fitting else None


def stepped(machine, pair):
    number = row_by(machine, pair)
    if number is None:
        return None
    one, other, put, side = machine.rows[number]
    square = machine.figures ** 2
    u, v = (pair[0] - one) // machine.figures, (pair[1] - other) // machine.figures
    return (u * square + put, v) if side == "right" else (u, v * square + put)


class Goes(StrictCase):
    def test_the_number_of_the_row(self):
        small = Machine(SMALL)
        self.same([goes(small, pair) for pair in ((1, 0), (0, 1), (1, 1), (0, 0), (2, 2))], [0, 1, 2, None, None])
        self.same([goes(small, pair) for pair in ((7, 4), (10, 3), (5, 9), (4, 8))], [0, 1, 2, None])

    def test_integers_below_0(self):
        three = Machine(THREE)
        self.same([goes(three, pair) for pair in ((-2, 0), (-3, -1), (-1, -4), (-1, -5), (-3, -3))], [0, 1, 2, 3, None])

    def test_many_figures(self):
        nine = Machine(NINE)
        self.same(goes(nine, (9 ** 100 + 8, 9 ** 90 + 7)), 0)
        self.same(goes(nine, (-(9 ** 100), -(9 ** 90) + 1)), 1)
        self.same(goes(nine, (-1, -1)), 2)
        self.assertIsNone(goes(nine, (9 ** 100 + 8, 9 ** 90 + 6)))

    def test_rows_go_by_both_rests(self):
        for text in TEXTS:
            machine = Machine(text)
            for pair in itertools.product(SOME, SOME):
                self.same(goes(machine, pair), row_by(machine, pair))


class Follows(StrictCase):
    def test_one_step_each(self):
        small, three = Machine(SMALL), Machine(THREE)
        self.same([follows(small, pair) for pair in ((1, 0), (5, 2), (0, 1), (2, 3), (3, 5))],
                  [(0, 0), (8, 1), (0, 1), (1, 5), (1, 8)])
        self.same([follows(three, pair) for pair in ((4, 3), (3, 5), (5, 2), (8, 7))],
                  [(11, 1), (1, 17), (1, 0), (25, 2)])

    def test_integers_below_0(self):
        self.same([follows(Machine(SMALL), pair) for pair in ((-1, 4), (-1, -1), (-2, -3))], [(-4, 2), (-1, -4), (-1, -7)])
        self.same([follows(Machine(THREE), pair) for pair in ((-2, -3), (-6, -1))], [(-7, -1), (-2, -1)])

    def test_many_figures(self):
        big = 9 ** 1400
        self.same(follows(Machine(NINE), (big + 3, 0)), (big // 9, 44))
        self.same(follows(Machine(NINE), (big, -big + 1)), (big * 9, -big // 9))

    def test_nothing_follows_0_0(self):
        for text in TEXTS:
            self.assertIsNone(follows(Machine(text), (0, 0)))

    def test_nothing_follows_where_no_row_goes(self):
        for text in TEXTS:
            machine = Machine(text)
            for pair in itertools.product(SOME, SOME):
                self.same(follows(machine, pair), stepped(machine, pair))
                self.assertEqual(follows(machine, pair) is None, goes(machine, pair) is None)


class Backs(StrictCase):
    def test_none_one_several(self):
        small = Machine(SMALL)
        self.same(backs(small, (1, 2)), ())
        self.same(backs(small, (0, 0)), ((1, 0), (1, 1)))
        self.same(backs(small, (0, 1)), ((0, 1), (1, 2)))
        self.same(backs(small, (4, 1)), ((3, 2), (8, 1)))
        self.same(backs(small, (3, 4)), ((7, 3),))

    def test_ascending_whatever_the_sequence_of_rows(self):
        lines = SMALL.split("\n")
        for rows in itertools.permutations(lines[1:]):
            machine = Machine("\n".join([lines[0], *rows]))
            self.same(backs(machine, (0, 0)), ((1, 0), (1, 1)))
            self.same(backs(machine, (4, 1)), ((3, 2), (8, 1)))
            self.same(backs(machine, (-4, 4)), ((-7, 3), (-1, 8)))

    def test_integers_below_0(self):
        self.same(backs(Machine(SMALL), (-4, 2)), ((-1, 4),))
        self.same(backs(Machine(SMALL), (-1, -4)), ((-1, -1),))
        self.same(backs(Machine(THREE), (-2, -1)), ((-6, -1), (-3, -2), (-1, -2)))

    def test_many_figures(self):
        big = 9 ** 1400
        self.same(backs(Machine(NINE), (big * 9, -big)), ((big, -big * 9 + 1),))

    def test_just_those_that_the_pair_follows(self):
        for text in TEXTS:
            machine = Machine(text)
            near = list(itertools.product(range(-20, 21), range(-20, 21)))
            ahead = {}
            for pair in near:
                ahead.setdefault(stepped(machine, pair), []).append(pair)
            for pair in itertools.product(SOME, SOME):
                told = backs(machine, pair)
                self.same(told, tuple(sorted(set(told))))
                self.same([stepped(machine, place) for place in told], [pair] * len(told))
                self.same([place for place in told if place in near], ahead.get(pair, []))


class Run(StrictCase):
    def test_as_many_as_there_are(self):
        whole = ((6, 1), (3, 1), (1, 0), (0, 0))
        for most in (4, 5, 400):
            self.same(run(Machine(SMALL), (6, 1), most), whole)
        for most in (1, 2, 3):
            self.same(run(Machine(SMALL), (6, 1), most), whole[:most])

    def test_one_alone(self):
        for most in (1, 2, 400):
            self.same(run(Machine(SMALL), (0, 0), most), ((0, 0),))
            self.same(run(Machine(SMALL), (-4, 2), most), ((-4, 2),))

    def test_most_1_and_400(self):
        self.same(run(Machine(SMALL), (0, 3), 1), ((0, 3),))
        self.same(run(Machine(SMALL), (0, 3), 400), tuple((0, 2 ** steps + 1) for steps in range(1, 401)))

    def test_round_and_round_and_below_0(self):
        self.same(run(Machine(SMALL), (1, 2), 400), ((1, 2),) + ((0, 1),) * 399)
        self.same(run(Machine(SMALL), (-1, -1), 3), ((-1, -1), (-1, -4), (-4, -2)))

    def test_each_follows_the_one_ahead(self):
        for text in TEXTS:
            machine = Machine(text)
            for pair in itertools.product(SOME, SOME):
                told = run(machine, pair, 6)
                self.same(told[0], pair)
                self.same([stepped(machine, place) for place in told[:-1]], list(told[1:]))
                self.assertTrue(len(told) == 6 or stepped(machine, told[-1]) is None)


class Comes(StrictCase):
    def test_below(self):
        for pair in ((-1, 0), (0, -1), (-1, -1), (-4, 2), (4, -1), (-1, 10 ** 40)):
            for most in (1, 400):
                self.same(comes(Machine(SMALL), pair, most), ("never", "below"))

    def test_ends(self):
        for most in (1, 2):
            self.same(comes(Machine(SMALL), (6, 1), most), ("open", ((3, 1), (1, 0))[most - 1]))
        for most in (3, 4, 400):
            self.same(comes(Machine(SMALL), (6, 1), most), ("ends", 3))
        for most in (1, 400):
            self.same(comes(Machine(SMALL), (1, 0), most), ("ends", 1))

    def test_0_0_ends_at_once(self):
        for text in TEXTS:
            for most in (1, 400):
                self.same(comes(Machine(text), (0, 0), most), ("ends", 0))

    def test_ends_at_the_most_of_all(self):
        machine = Machine("figures 2\nrow 1 0 0 left")
        start = (2 ** 400 - 1, 0)
        self.same(comes(machine, start, 400), ("ends", 400))
        self.same(comes(machine, start, 399), ("open", (1, 0)))
        self.same(comes(machine, (2 ** 401 - 1, 0), 400), ("open", (1, 0)))

    def test_round(self):
        ring = Machine(RING)
        places = run(ring, (1, 4), 10)
        self.assertEqual(len(set(places)), 9)
        self.assertEqual(places[6], places[9])
        for most in (1, 5, 7, 8):
            self.same(comes(ring, (1, 4), most), ("open", places[most]))
        for most in (9, 10, 400):
            self.same(comes(ring, (1, 4), most), ("never", "round", 6, 3))
        self.same(comes(ring, (0, 3), 2), ("open", run(ring, (0, 3), 3)[2]))
        self.same(comes(ring, (0, 3), 3), ("never", "round", 0, 3))

    def test_round_in_one_step(self):
        self.same(comes(Machine(SMALL), (0, 1), 1), ("never", "round", 0, 1))
        self.same(comes(Machine(SMALL), (1, 2), 1), ("open", (0, 1)))
        self.same(comes(Machine(SMALL), (1, 2), 2), ("never", "round", 1, 1))

    def test_stops(self):
        self.same(comes(Machine(SMALL), (3, 5), 1), ("open", (1, 8)))
        for most in (2, 3, 400):
            self.same(comes(Machine(SMALL), (3, 5), most), ("never", "stops", 2))
        for most in (1, 400):
            self.same(comes(Machine(SMALL), (4, 8), most), ("never", "stops", 0))
            self.same(comes(Machine(DOWN), (1, 2), most), ("never", "stops", 1))

    def test_stops_beside_one_0(self):
        small = Machine(SMALL)
        self.same(comes(small, (0, 2), 3), ("never", "stops", 0))
        self.same(comes(small, (2, 0), 3), ("never", "stops", 0))

    def test_open(self):
        for most in (1, 2, 20, 399, 400):
            self.same(comes(Machine(SMALL), (0, 3), most), ("open", (0, 2 ** (most + 1) + 1)))

    def test_the_first_that_is_so_of_all_small_pairs(self):
        for text in TEXTS:
            machine = Machine(text)
            for pair in itertools.product(range(-3, 12), range(-3, 12)):
                for most in (1, 2, 3, 4, 7, 30):
                    self.same(comes(machine, pair, most), self.looked(machine, pair, most))

    def looked(self, machine, pair, most):
        if min(pair) < 0:
            return ("never", "below")
        stood = []
        for steps in range(most + 1):
            if pair == (0, 0):
                return ("ends", steps)
            if pair in stood:
                return ("never", "round", stood.index(pair), steps - stood.index(pair))
            if stepped(machine, pair) is None:
                return ("never", "stops", steps)
            stood.append(pair)
            pair = stepped(machine, pair)
        return ("open", stood[most])


class Sequence(StrictCase):
    def test_rows_in_another_sequence_tell_the_same(self):
        lines = RING.split("\n")
        ring = Machine(RING)
        for rows in itertools.permutations(lines[1:]):
            other = Machine("\n".join([lines[0], *rows]))
            for pair in itertools.product(range(-4, 8), range(-4, 8)):
                self.same(follows(other, pair), follows(ring, pair))
                self.same(backs(other, pair), backs(ring, pair))
                self.same(comes(other, pair, 9), comes(ring, pair, 9))
                number = goes(ring, pair)
                told = goes(other, pair)
                self.assertEqual(told is None, number is None)
                self.assertTrue(told is None or other.rows[told] == ring.rows[number])


if __name__ == "__main__":
    unittest.main()
