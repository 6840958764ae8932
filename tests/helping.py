"""What the tests share: any values, standings, words freed letter by letter, a test case that compares strictly."""

import itertools
import random
import unittest

from emptywords.benches import Bench
from emptywords.desk import Desk
from emptywords.pairs import Machine
from emptywords.strips import Strip

WIPE = "marks 2\nstates 1\nrow 0 1 0 right 0\nrow 0 0 0 left end"
SWING = "marks 2\nstates 2\nrow 0 0 1 right 1\nrow 1 0 0 left 0\nrow 0 1 0 right 1"
SMALL = "figures 2\nrow 1 0 0 right\nrow 0 1 1 left\nrow 1 1 0 left"


def nested(depth, wrap):
    value = wrap(1)
    for _ in range(depth - 1):
        value = wrap(value)
    return value


def any_values():
    """Values of every kind that section 2 calls any; none is a STANDING, a PAIR or a MOST."""
    return [
        -1, 0, 401, 999999999, True, False, None,
        "", "a", "5", "(0, 1)", WIPE, SMALL,
        (), (1,), (1, 2, 3), (True, 1), (None, None), ("1", "2"), ((1, 2), (3, 4)), (1, (2, 3)),
        [], [1], [1, 2], [0, (), ()], [[]],
        {}, {1: 2}, {0: (), 1: ()}, {"text": WIPE},
        Strip(WIPE), Machine(SMALL), (Strip(WIPE),), [Machine(SMALL)], {"value": Strip(SWING)},
        Bench(SMALL), Desk(SMALL + "\ndeeds"), (Bench(SMALL),), [Desk(SMALL + "\ndeeds")],
        nested(60, lambda value: (value,)), nested(60, lambda value: [value]), nested(60, lambda value: {1: value}),
    ]


def sides(marks, longest):
    """All tuples of marks, up to this length, that end ahead of where all is blank."""
    found = [()]
    for length in range(1, longest + 1):
        found += [side for side in itertools.product(range(marks), repeat=length) if side[-1] != 0]
    return found


def standings(strip, longest):
    some = sides(strip.marks, longest)
    return [place for place in itertools.product(range(strip.states + 1), some, some)]


def letters_freed(word):
    """The word, freed: written letter by letter, and what undoes one another taken out wherever it is found."""
    chance = random.Random(len(word))
    units = [(letter, 1 if power > 0 else -1) for letter, power in word for _ in range(abs(power))]
    while True:
        places = [at for at in range(len(units) - 1) if units[at] == (units[at + 1][0], -units[at + 1][1])]
        if not places:
            break
        at = chance.choice(places)
        del units[at:at + 2]
    told = []
    for letter, sign in units:
        if told and told[-1][0] == letter and letter in ("x", "y", "t"):
            told[-1] = (letter, told[-1][1] + sign)
        else:
            told.append((letter, sign))
    return tuple(told)


def backward(word):
    """The word, undone."""
    told = []
    for letter, power in word:
        told.insert(0, (letter, -power))
    return tuple(told)


def some_words(letters, many, longest=12, highest=3):
    """Words of these letters, always the same ones; x, y and t have powers up to the highest."""
    chance = random.Random(many * longest)
    words = []
    for _ in range(many):
        word = []
        for _ in range(chance.randint(0, longest)):
            letter = chance.choice(letters)
            power = chance.randint(1, highest if letter in ("x", "y", "t") else 1)
            word.append((letter, power * chance.choice((1, -1))))
        words.append(tuple(word))
    return words


class StrictCase(unittest.TestCase):
    """True is not 1 here, and a list is not a tuple."""

    def same(self, got, wanted):
        self.assertEqual(got, wanted)
        self.assertEqual(repr(got), repr(wanted))
        self.assertIs(type(got), type(wanted))

    def refused(self, error, value, call, *arguments, **named):
        """Exactly this error comes of the call, with this very value."""
        with self.assertRaises(ValueError) as caught:
            call(*arguments, **named)
        self.assertIs(type(caught.exception), error)
        self.assertIs(caught.exception.value, value)

    def refused_number(self, error, number, call, *arguments):
        with self.assertRaises(ValueError) as caught:
            call(*arguments)
        self.assertIs(type(caught.exception), error)
        self.same(caught.exception.value, number)
