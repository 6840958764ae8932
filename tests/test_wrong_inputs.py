"""Section 2: what is not as it is told, what is named first, how arguments are passed."""

import copy
import unittest

from emptywords import pairs, strips
from emptywords.errors import BadMost, BadPair, BadStanding, NoMachine, NoStrip
from emptywords.pairs import Machine
from emptywords.strips import Strip
from tests.helping import SMALL, SWING, WIPE, StrictCase, any_values, nested

STANDING = (0, (1,), (0, 1))
PAIR = (6, 1)
BAD_MOSTS = [0, -1, 401, 402, 1000, -400, True, False, None, "5", "", (), (5,), [5], {}, {5: 5}, Strip(WIPE), Machine(SMALL)]
BAD_STANDINGS = [
    (), (0,), (0, ()), (0, (), (), ()), [0, (), ()], {0: (), 1: (), 2: ()}, "0", ((0, (), ()),),
    (2, (), ()), (-1, (), ()), (True, (), ()), (False, (), ()), (None, (), ()), ("0", (), ()), ((0,), (), ()),
    ((), (), 0), (0, [], ()), (0, (), []), (0, None, ()), (0, (), None), (0, "", ()), (0, (), ""), (0, {}, ()),
    (0, (), {}), (0, 1, ()), (0, (), 1), (0, 0, 0), (0, [1], ()), (0, (), [1]),
    (0, (0,), ()), (0, (), (0,)), (0, (1, 0), ()), (0, (), (1, 0)), (0, (1, 1, 0, 0), ()), (0, (), (0, 0)),
    (0, (2,), ()), (0, (), (2,)), (0, (-1,), ()), (0, (), (-1,)), (0, (2, 1), ()), (0, (), (1, 2, 1)),
    (0, (True,), ()), (0, (), (True,)), (0, (False, 1), ()), (0, (), (False, 1)), (0, ("1",), ()), (0, (), ("1",)),
    (0, (None,), ()), (0, (), (None, 1)), (0, ((1,),), ()), (0, (), ([1],)), (0, (Strip(WIPE),), ()),
    (Strip(WIPE), (), ()), (0, (), nested(57, lambda value: (value,))),
]
BAD_PAIRS = [
    (), (1,), (1, 2, 3), [1, 2], [(1, 2)], ((1, 2),), "12", {1: 2}, 1, None, True, (1, True), (False, 1), (1, None),
    (None, 1), ("1", 2), (1, "2"), (1, (2,)), ((1,), 2), ([1], 2), (1, [2]), (1, {}), (Machine(SMALL), 1),
    (1, Strip(WIPE)), ((1, 2), (1, 2)),
]


class StripFunctions(StrictCase):
    brief = (strips.follows, strips.backs)
    long = (strips.run, strips.fate)

    def each(self, error, value, strip, standing, most=9):
        """All functions refuse these arguments with this error and value."""
        for call in self.brief:
            with self.subTest(call=call.__name__, value=value):
                self.refused(error, value, call, strip, standing)
        self.each_long(error, value, strip, standing, most)

    def each_long(self, error, value, strip, standing, most):
        for call in self.long:
            with self.subTest(call=call.__name__, value=value):
                self.refused(error, value, call, strip, standing, most)
                self.refused(error, value, call, most=most, standing=standing, strip=strip)

    def test_no_strip(self):
        for value in any_values():
            if not isinstance(value, Strip):
                self.each(NoStrip, value, value, STANDING)

    def test_no_standing(self):
        for value in any_values() + BAD_STANDINGS:
            self.each(BadStanding, value, Strip(WIPE), value)

    def test_standings_go_by_the_strip(self):
        three = Strip("marks 3\nstates 2\nrow 0 0 0 left end")
        self.same(strips.run(three, (2, (2,), (0, 2)), 1), ((2, (2,), (0, 2)),))
        for value in ((3, (), ()), (0, (3,), ()), (0, (), (3,))):
            self.each(BadStanding, value, three, value)
        for value in ((3, (), ()), (0, (2,), ()), (0, (), (2,))):
            self.each(BadStanding, value, Strip(SWING), value)

    def test_no_most(self):
        for value in BAD_MOSTS:
            self.each_long(BadMost, value, Strip(WIPE), STANDING, value)
            self.each_long(BadMost, value, Strip(WIPE), (1, (), ()), value)

    def test_the_first_that_is_listed(self):
        for wrong in any_values():
            if not isinstance(wrong, Strip):
                self.each(NoStrip, wrong, wrong, [], 0)
                self.each(NoStrip, wrong, wrong, STANDING, None)
        for wrong in BAD_STANDINGS:
            self.each(BadStanding, wrong, Strip(WIPE), wrong, 0)

    def test_most_1_and_400_are_taken(self):
        for most in (1, 400):
            self.same(strips.run(Strip(WIPE), (1, (), ()), most), ((1, (), ()),))
            self.same(strips.fate(Strip(WIPE), (1, (), ()), most), ("clean", 0))

    def test_by_names(self):
        wipe, ones = Strip(WIPE), (0, (), (1, 1))
        self.same(strips.follows(standing=ones, strip=wipe), strips.follows(wipe, ones))
        self.same(strips.backs(standing=ones, strip=wipe), strips.backs(wipe, ones))
        self.same(strips.run(most=3, standing=ones, strip=wipe), strips.run(wipe, ones, 3))
        self.same(strips.fate(most=3, standing=ones, strip=wipe), strips.fate(wipe, ones, 3))

    def test_equal_calls_return_equal_results(self):
        ones = (0, (), (1, 1))
        for call in self.brief:
            self.same(call(Strip(WIPE), ones), call(Strip(WIPE), copy.deepcopy(ones)))
        for call in self.long:
            self.same(call(Strip(WIPE), ones, 9), call(Strip(WIPE), copy.deepcopy(ones), 9))

    def test_nothing_is_changed(self):
        wipe, wrong = Strip(WIPE), [0, [1], [0, 1]]
        for call in self.brief:
            self.refused(BadStanding, wrong, call, wipe, wrong)
            call(wipe, STANDING)
        for call in self.long:
            self.refused(BadStanding, wrong, call, wipe, wrong, 9)
            call(wipe, STANDING, 9)
        self.same(wrong, [0, [1], [0, 1]])
        self.same((wipe.text, wipe.marks, wipe.states), (WIPE, 2, 1))
        self.same(wipe.rows, Strip(WIPE).rows)


class PairFunctions(StrictCase):
    brief = (pairs.goes, pairs.follows, pairs.backs)
    long = (pairs.run, pairs.comes)

    def each(self, error, value, machine, pair, most=9):
        for call in self.brief:
            with self.subTest(call=call.__name__, value=value):
                self.refused(error, value, call, machine, pair)
        self.each_long(error, value, machine, pair, most)

    def each_long(self, error, value, machine, pair, most):
        for call in self.long:
            with self.subTest(call=call.__name__, value=value):
                self.refused(error, value, call, machine, pair, most)
                self.refused(error, value, call, most=most, pair=pair, machine=machine)

    def test_no_machine(self):
        for value in any_values():
            if not isinstance(value, Machine):
                self.each(NoMachine, value, value, PAIR)

    def test_no_pair(self):
        for value in any_values() + BAD_PAIRS:
            self.each(BadPair, value, Machine(SMALL), value)

    def test_no_most(self):
        for value in BAD_MOSTS:
            for pair in (PAIR, (0, 0), (-1, 0), (4, 8)):
                self.each_long(BadMost, value, Machine(SMALL), pair, value)

    def test_the_first_that_is_listed(self):
        for wrong in any_values():
            if not isinstance(wrong, Machine):
                self.each(NoMachine, wrong, wrong, [], 0)
                self.each(NoMachine, wrong, wrong, PAIR, None)
        for wrong in BAD_PAIRS:
            self.each(BadPair, wrong, Machine(SMALL), wrong, 0)

    def test_most_1_and_400_are_taken(self):
        for most in (1, 400):
            self.same(pairs.run(Machine(SMALL), (0, 0), most), ((0, 0),))
            self.same(pairs.comes(Machine(SMALL), (0, 0), most), ("ends", 0))

    def test_by_names(self):
        small = Machine(SMALL)
        self.same(pairs.goes(pair=PAIR, machine=small), 1)
        self.same(pairs.follows(pair=PAIR, machine=small), (3, 1))
        self.same(pairs.backs(pair=PAIR, machine=small), pairs.backs(small, PAIR))
        self.same(pairs.run(most=2, pair=PAIR, machine=small), (PAIR, (3, 1)))
        self.same(pairs.comes(most=3, pair=PAIR, machine=small), ("ends", 3))

    def test_equal_calls_return_equal_results(self):
        for call in self.brief:
            self.same(call(Machine(SMALL), PAIR), call(Machine(SMALL), (6, 1)))
        for call in self.long:
            self.same(call(Machine(SMALL), PAIR, 9), call(Machine(SMALL), (6, 1), 9))

    def test_nothing_is_changed(self):
        small, wrong = Machine(SMALL), [6, [1]]
        for call in self.brief:
            self.refused(BadPair, wrong, call, small, wrong)
            call(small, PAIR)
        for call in self.long:
            self.refused(BadPair, wrong, call, small, wrong, 9)
            call(small, PAIR, 9)
        self.same(wrong, [6, [1]])
        self.same((small.text, small.figures, small.rows), (SMALL, 2, Machine(SMALL).rows))


if __name__ == "__main__":
    unittest.main()
