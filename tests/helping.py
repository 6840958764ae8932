"""What the tests share: any values, and a test case that compares strictly."""

import unittest

from emptywords.pairs import Machine
from emptywords.strips import Strip

WIPE = "marks 2\nstates 1\nrow 0 1 0 right 0\nrow 0 0 0 left end"
SWING = "marks 2\nstates 2\nrow 0 0 1 right 1\nrow 1 0 0 left 0\nrow 0 1 0 right 1"
SMALL = "figures 2\nrow 1 0 0 right\nrow 0 1 1 left\nrow 1 1 0 left"


def nested(depth, wrap):
    value = wrap(1)
    for _ in range(depth - 1):
        value = wrap(value)
    return value


def any_values():
    """Values of every kind that section 2 calls any; none is a STANDING, a PAIR or a MOST."""
    return [
        -1, 0, 401, 999999999, True, False, None,
        "", "a", "5", "(0, 1)", WIPE, SMALL,
        (), (1,), (1, 2, 3), (True, 1), (None, None), ("1", "2"), ((1, 2), (3, 4)), (1, (2, 3)),
        [], [1], [1, 2], [0, (), ()], [[]],
        {}, {1: 2}, {0: (), 1: ()}, {"text": WIPE},
        Strip(WIPE), Machine(SMALL), (Strip(WIPE),), [Machine(SMALL)], {"value": Strip(SWING)},
        nested(60, lambda value: (value,)), nested(60, lambda value: [value]), nested(60, lambda value: {1: value}),
    ]


class StrictCase(unittest.TestCase):
    """True is not 1 here, and a list is not a tuple."""

    def same(self, got, wanted):
        self.assertEqual(got, wanted)
        self.assertEqual(repr(got), repr(wanted))
        self.assertIs(type(got), type(wanted))

    def refused(self, error, value, call, *arguments, **named):
        """Exactly this error comes of the call, with this very value."""
        with self.assertRaises(ValueError) as caught:
            call(*arguments, **named)
        self.assertIs(type(caught.exception), error)
        self.assertIs(caught.exception.value, value)

    def refused_number(self, error, number, call, *arguments):
        with self.assertRaises(ValueError) as caught:
            call(*arguments)
        self.assertIs(type(caught.exception), error)
        self.same(caught.exception.value, number)
