"""Section 10: passed and lacks."""

import itertools
import unittest

from emptywords.books import is_product
from emptywords.errors import BadForm, BadHand, BadWay, IsPassed, NoMachine
from emptywords.ground import form_word
from emptywords.hands import lacks, passed, why
from emptywords.pairs import Machine, follows, goes
from tests.helping import SMALL, StrictCase, any_values, backward, nested
from tests.test_ground import BAD_FORMS

# Of each side one with both rests and one with a rest of 0.
SIX = Machine("figures 3\nrow 1 2 7 right\nrow 2 1 5 left\nrow 0 1 0 right\nrow 2 0 0 left\nrow 1 1 8 right\nrow 2 2 8 left")
BIG = 10 ** 4000 + 8
BAD_HANDS = [-1, 6, 7, True, False, None, "0", "h0", "", (), (0,), ("h0", 1), [], [0], {}, {0: 1}, Machine(SMALL)]
BAD_WAYS = [0, 2, -2, True, False, None, "1", "right", (), (1,), [], [1], {}, Machine(SMALL)]


def by_the_table(machine, hand, form, way):
    """What the table tells, line by line."""
    rest_r, rest_s, put, side = machine.rows[hand]
    base, square = machine.figures, machine.figures ** 2
    ts, p, q = form
    if way == 1:
        if p % base or q % base or any((r % base, s % base) != (rest_r, rest_s) for (r, s), _ in ts):
            return None
        if side == "right":
            led = [((r // base * square + put, s // base), power) for (r, s), power in ts]
            return (tuple(led), p * base, q // base)
        led = [((r // base, s // base * square + put), power) for (r, s), power in ts]
        return (tuple(led), p // base, q * base)
    if side == "right":
        if p % square or any(r % square != put for (r, s), _ in ts):
            return None
        led = [((r // square * base + rest_r, s * base + rest_s), power) for (r, s), power in ts]
        return (tuple(led), p // base, q * base)
    if q % square or any(s % square != put for (r, s), _ in ts):
        return None
    led = [((r * base + rest_r, s // square * base + rest_s), power) for (r, s), power in ts]
    return (tuple(led), p * base, q // base)


class Passed(StrictCase):
    def gives(self, hand, form, way, wanted):
        self.same(passed(SIX, hand, form, way), wanted)
        self.same(by_the_table(SIX, hand, form, way), wanted)

    def there_and_back(self, hand, form, behind):
        self.gives(hand, form, 1, behind)
        self.gives(hand, behind, -1, form)

    def test_nothing_is_passed(self):
        for hand in range(6):
            self.there_and_back(hand, ((), 0, 0), ((), 0, 0))

    def test_lengths(self):
        self.there_and_back(0, ((), 6, 9), ((), 18, 3))
        self.there_and_back(1, ((), 6, 9), ((), 2, 27))
        self.there_and_back(0, ((), -3, -12), ((), -9, -4))
        self.there_and_back(1, ((), -3, -12), ((), -1, -36))
        self.there_and_back(0, ((), 0, 3), ((), 0, 1))
        self.there_and_back(1, ((), 3, 0), ((), 1, 0))

    def test_moved_ts(self):
        self.there_and_back(0, ((((4, 5), 2),), 0, 0), ((((16, 1), 2),), 0, 0))
        self.there_and_back(1, ((((5, 4), -2),), 0, 0), ((((1, 14), -2),), 0, 0))
        self.there_and_back(2, ((((3, 1), 1),), 3, 3), ((((9, 0), 1),), 9, 1))
        self.there_and_back(3, ((((2, 6), 1),), 3, 3), ((((0, 18), 1),), 1, 9))

    def test_below_0(self):
        self.there_and_back(0, ((((-2, -1), 1),), -3, -3), ((((-2, -1), 1),), -9, -1))
        self.there_and_back(0, ((((-5, -4), 1),), 0, 0), ((((-11, -2), 1),), 0, 0))
        self.there_and_back(1, ((((-1, -2), 1),), -3, -3), ((((-1, -4), 1),), -1, -9))
        self.there_and_back(1, ((((-4, -5), 1),), 0, 0), ((((-2, -13), 1),), 0, 0))

    def test_several_that_stay_unlike(self):
        ts = (((1, 2), 1), ((4, 2), 2), ((1, 5), -1), ((1, 2), 3), ((-2, 2), 1))
        behind = (((7, 0), 1), ((16, 0), 2), ((7, 1), -1), ((7, 0), 3), ((-2, 0), 1))
        self.there_and_back(0, (ts, 3, -6), (behind, 9, -2))
        ts = (((2, 1), 1), ((5, 1), 2), ((2, 4), -1), ((2, 1), 3), ((2, -2), 1))
        behind = (((0, 5), 1), ((1, 5), 2), ((0, 14), -1), ((0, 5), 3), ((0, -4), 1))
        self.there_and_back(1, (ts, -6, 3), (behind, -2, 9))

    def test_each_condition_failing_alone(self):
        t = (((1, 2), 1),)
        self.gives(0, (t, 3, 3), 1, ((((7, 0), 1),), 9, 1))
        for form in ((t, 1, 3), (t, 4, 3), (t, -1, 3), (t, 3, 1), (t, 3, -2), ((((0, 2), 1),), 3, 3),
                     ((((1, 1), 1),), 3, 3), ((((-1, 2), 1),), 3, 3), ((((1, -2), 1),), 3, 3), (t + (((2, 2), 1),), 3, 3)):
            self.gives(0, form, 1, None)
        t = (((2, 1), 1),)
        self.gives(1, (t, 3, 3), 1, ((((0, 5), 1),), 1, 9))
        for form in ((t, 1, 3), (t, -4, 3), (t, 3, 1), (t, 3, -2), ((((0, 1), 1),), 3, 3), ((((2, 2), 1),), 3, 3),
                     ((((1, 1), 1),), 3, 3), (t + (((2, 0), 1),), 3, 3)):
            self.gives(1, form, 1, None)

    def test_each_condition_failing_alone_backward(self):
        t = (((7, 4), 1),)
        self.gives(0, (t, 9, 1), -1, ((((1, 14), 1),), 3, 3))
        for form in ((t, 3, 1), (t, 1, 1), (t, -3, 1), ((((1, 4), 1),), 9, 1), ((((8, 4), 1),), 9, 1), ((((4, 4), 1),), 9, 1),
                     ((((-7, 4), 1),), 9, 1), (t + (((6, 4), 1),), 9, 1)):
            self.gives(0, form, -1, None)
        # The other number and the other length are free.
        for s, q in itertools.product(range(-4, 5), repeat=2):
            self.gives(0, ((((7, s), 1),), 9, q), -1, ((((1, 3 * s + 2), 1),), 3, 3 * q))
        t = (((4, 5), 1),)
        self.gives(1, (t, 1, 9), -1, ((((14, 1), 1),), 3, 3))
        for form in ((t, 1, 3), (t, 1, 1), (t, 1, -6), ((((4, 2), 1),), 1, 9), ((((4, 6), 1),), 1, 9), ((((4, -5), 1),), 1, 9),
                     (t + (((4, 8), 1),), 1, 9)):
            self.gives(1, form, -1, None)
        for r, p in itertools.product(range(-4, 5), repeat=2):
            self.gives(1, ((((r, 5), 1),), p, 9), -1, ((((3 * r + 2, 1), 1),), 3 * p, 3))

    def test_all_hands_with_many_forms(self):
        numbers = range(-10, 11)
        for hand, way in itertools.product(range(6), (1, -1)):
            found = 0
            for a, b in itertools.product(numbers, numbers):
                for form in (((), a, b), ((((a, b), 1),), 0, 0), ((((a, b), 1), ((a + 9, b - 9), -2)), 9, -18)):
                    told = by_the_table(SIX, hand, form, way)
                    self.same(passed(SIX, hand, form, way), told)
                    if told is not None:
                        found += 1
                        self.same(passed(SIX, hand, told, -way), form)
            self.assertGreater(found, 50)

    def test_a_row_goes_by_the_moved_t_that_its_hand_passes(self):
        for pair in itertools.product(range(-9, 18), repeat=2):
            for hand in range(6):
                told = passed(SIX, hand, (((pair, 1),), 0, 0), 1)
                if goes(SIX, pair) == hand:
                    self.same(told, (((follows(SIX, pair), 1),), 0, 0))
                else:
                    self.same(told, None)

    def test_its_word_is_alike(self):
        for hand, form, way in (
            (0, ((((1, 2), 1), ((4, -1), -2)), 3, -6), 1), (0, ((((7, 3), 1), ((-2, 5), 2)), -9, 2), -1),
            (1, ((((2, 1), 1), ((5, -5), -2)), -3, 6), 1), (1, ((((7, 5), 1), ((-2, -4), 2)), 5, -9), -1),
            (4, ((((-5, 4), 3),), 3, 3), 1), (5, ((((1, -1), 3),), 1, 9), -1),
        ):
            behind = form_word(passed(SIX, hand, form, way))
            word = ((f"h{hand}", -way),) + form_word(form) + ((f"h{hand}", way),) + backward(behind)
            told, paper = why(SIX, word)
            self.same(told, "empty")
            self.same(is_product(SIX, word, paper), True)

    def test_great_numbers(self):
        # 10 leaves 1 by 9, so BIG leaves 0.
        self.there_and_back(0, ((((BIG + 1, -BIG + 2), BIG),), BIG, -BIG), ((((3 * BIG + 7, -BIG // 3), BIG),), 3 * BIG, -BIG // 3))
        self.there_and_back(1, ((((BIG + 2, -BIG + 1), 1),), BIG, BIG), ((((BIG // 3, -3 * BIG + 5), 1),), BIG // 3, 3 * BIG))
        self.gives(0, ((), BIG + 1, 0), 1, None)


class Lacks(StrictCase):
    def gives(self, hand, form, way, wanted):
        self.same(lacks(SIX, hand, form, way), wanted)
        self.same(passed(SIX, hand, form, way), None)

    def test_x_first(self):
        bad = (((0, 0), 1),)
        self.gives(0, (bad, 1, 1), 1, ("x", 1))
        self.gives(1, (bad, -5, 2), 1, ("x", -5))
        self.gives(0, (bad, 3, 1), -1, ("x", 3))
        self.gives(0, ((), 6, 0), -1, ("x", 6))

    def test_then_y(self):
        bad = (((0, 0), 1),)
        self.gives(0, (bad, 3, 1), 1, ("y", 1))
        self.gives(1, (bad, -6, -2), 1, ("y", -2))
        self.gives(1, (bad, 1, 3), -1, ("y", 3))
        self.gives(1, ((), 0, -6), -1, ("y", -6))

    def test_then_the_first_moved_t(self):
        self.gives(0, ((((1, 2), 1), ((0, 2), 1), ((1, 0), 1)), 3, 3), 1, ("t", (0, 2)))
        self.gives(0, ((((1, 0), 5), ((0, 2), 1)), 3, 3), 1, ("t", (1, 0)))
        self.gives(1, ((((2, 1), 1), ((5, -2), 1), ((2, -1), 1)), 0, 0), 1, ("t", (2, -1)))
        self.gives(0, ((((7, 0), 1), ((7, 1), 1), ((16, 0), 1), ((6, 0), 1)), 9, 1), -1, ("t", (6, 0)))
        self.gives(1, ((((1, 7), 1), ((0, 5), 1)), 1, 9), -1, ("t", (1, 7)))

    def test_the_other_length_is_free_backward(self):
        self.gives(0, ((((0, 0), 1),), 9, 1), -1, ("t", (0, 0)))
        self.gives(1, ((((0, 0), 1),), 1, 9), -1, ("t", (0, 0)))

    def test_it_is_passed(self):
        for hand, form, way in ((0, ((), 0, 0), 1), (0, ((((1, 2), 1),), 3, 3), 1), (0, ((((7, 0), 1),), 9, 1), -1),
                                (1, ((((2, 1), 1),), 3, 3), 1), (1, ((((0, 5), 1),), 1, 9), -1)):
            self.refused(IsPassed, None, lacks, SIX, hand, form, way)

    def test_just_if_it_is_not_passed(self):
        for hand, way, a, b in itertools.product(range(6), (1, -1), range(-4, 10), range(-4, 10)):
            for form in (((), a, b), ((((a, b), 1), ((99, 9), 1)), 9, 9)):
                if passed(SIX, hand, form, way) is None:
                    kind, told = lacks(SIX, hand, form, way)
                    self.assertIn((kind, told), [("x", form[1]), ("y", form[2])] + [("t", pair) for pair, _ in form[0]])
                else:
                    self.refused(IsPassed, None, lacks, SIX, hand, form, way)


class Wrong(StrictCase):
    form = ((((1, 2), 1),), 3, 3)

    def each(self, error, value, *arguments):
        for call in (passed, lacks):
            with self.subTest(call=call.__name__, value=value):
                self.refused(error, value, call, *arguments)
                named = dict(zip(("way", "form", "hand", "machine"), reversed(arguments)))
                self.refused(error, value, call, **named)

    def test_no_machine(self):
        for wrong in any_values():
            if not isinstance(wrong, Machine):
                self.each(NoMachine, wrong, wrong, 0, self.form, 1)
                self.each(NoMachine, wrong, wrong, -1, [], 0)

    def test_no_hand(self):
        for wrong in [value for value in any_values() if value != 0 or isinstance(value, bool)] + BAD_HANDS:
            self.each(BadHand, wrong, SIX, wrong, self.form, 1)
            self.each(BadHand, wrong, SIX, wrong, [], 0)
        self.refused_number(BadHand, 3, passed, Machine(SMALL), 3, self.form, 1)
        self.same(passed(Machine(SMALL), 2, ((), 0, 0), 1), ((), 0, 0))

    def test_no_form(self):
        for wrong in any_values() + BAD_FORMS:
            self.each(BadForm, wrong, SIX, 0, wrong, 1)
            self.each(BadForm, wrong, SIX, 5, wrong, 0)

    def test_no_way(self):
        for wrong in [value for value in any_values() if value != -1 or isinstance(value, bool)] + BAD_WAYS:
            self.each(BadWay, wrong, SIX, 0, self.form, wrong)
        self.each(BadWay, wrong := nested(59, lambda value: [value]), SIX, 0, self.form, wrong)

    def test_by_names(self):
        self.same(passed(way=1, form=self.form, hand=0, machine=SIX), ((((7, 0), 1),), 9, 1))
        self.same(lacks(way=-1, form=self.form, hand=0, machine=SIX), ("x", 3))


if __name__ == "__main__":
    unittest.main()
