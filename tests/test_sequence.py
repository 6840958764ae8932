"""Point 3, (h): the rows of a machine told in another sequence."""

import itertools
import unittest

from emptywords.ground import form
from emptywords.hands import is_empty, lacks, passed, tower
from emptywords.pairs import Machine, backs, comes, follows
from emptywords.spelling import hands_word, led_by, linked, run_in
from emptywords.top import lot, verdict, word_of_pair
from tests.helping import StrictCase, any_values, backward, some_words
from tests.test_lots import drawn_words
from tests.test_verdicts import drawn_with_k

TEXTS = ("figures 2\nrow 1 0 0 right\nrow 0 1 3 left\nrow 1 1 1 right",
         "figures 3\nrow 1 0 4 right\nrow 2 1 7 left\nrow 0 2 5 right\nrow 2 2 0 left\nrow 1 1 0 left")


def others():
    """Each machine with others of the same rows, and for each row the number that it has there."""
    for text in TEXTS:
        head, *rows = text.split("\n")
        for numbers in list(itertools.permutations(range(len(rows))))[1::7]:
            other = [None] * len(rows)
            for number, row in zip(numbers, rows):
                other[number] = row
            yield Machine(text), Machine("\n".join([head] + other)), numbers


def called(value, numbers):
    """The value with its hands called as they are there."""
    if isinstance(value, tuple):
        return tuple(called(part, numbers) for part in value)
    if isinstance(value, str) and value.startswith("h"):
        return f"h{numbers[int(value[1:])]}"
    return value


def outcome(call, *arguments):
    try:
        return call(*arguments)
    except ValueError as error:
        return (error.__class__.__name__, error.value)


class Sequence(StrictCase):
    def told_alike(self, call, one, other, numbers, *arguments):
        told = outcome(call, one, *arguments)
        self.same(outcome(call, other, *called(arguments, numbers)), called(told, numbers))
        return told

    def test_pairs(self):
        for one, other, numbers in others():
            for pair in itertools.product(range(-3, 6), repeat=2):
                for call in (follows, backs):
                    self.same(call(other, pair), call(one, pair))
                self.same(comes(other, pair, 9), comes(one, pair, 9))

    def test_passed_and_lacks(self):
        for one, other, numbers in others():
            forms = [form(word) for word in some_words(("x", "y", "t"), 30, 3, 4)]
            forms += [((((a, b), 2),), 0, 0) for a in range(-4, 5) for b in range(-4, 5)]
            for told, (hand, number), way in itertools.product(forms, enumerate(numbers), (1, -1)):
                for call in (passed, lacks):
                    self.same(outcome(call, other, number, told, way), outcome(call, one, hand, told, way))

    def test_tower_and_is_empty(self):
        for one, other, numbers in others():
            for word in drawn_words(one, 40, 2):
                self.told_alike(tower, one, other, numbers, word)
                self.told_alike(is_empty, one, other, numbers, word)
                self.told_alike(is_empty, one, other, numbers, word + backward(word))

    def test_lot_and_verdict(self):
        for one, other, numbers in others():
            for word in drawn_words(one, 40, 3):
                for most in (1, 9):
                    told, other_told = lot(one, word, most), lot(other, called(word, numbers), most)
                    self.same(told[0], other_told[0])
                    if told[0] == "open":
                        self.same(told[1], other_told[1])
            for word in drawn_with_k(one, 40, 3) + [word_of_pair(pair) for pair in itertools.product(range(4), repeat=2)]:
                for most in (1, 9):
                    self.told_alike(verdict, one, other, numbers, word, most)

    def test_runs(self):
        for one, other, numbers in others():
            pairs = list(itertools.product(range(-1, 5), repeat=2))
            rows = [tuple((f"h{hand}", 1) for hand in row) for row in itertools.product(range(len(numbers)), repeat=2)]
            for pair in pairs:
                told = self.told_alike(hands_word, one, other, numbers, pair, 9)
                if told[:1] != ("NotEnded",):
                    self.told_alike(run_in, one, other, numbers, told)
                for hands in rows:
                    self.told_alike(led_by, one, other, numbers, pair, hands)
                for to in pairs[::4]:
                    self.told_alike(linked, one, other, numbers, pair, to, 6)
            for hands in rows:
                self.told_alike(run_in, one, other, numbers, hands)

    def test_wrong_words_are_refused_alike(self):
        for one, other, numbers in others():
            for wrong in any_values():
                for call in (tower, is_empty, run_in):
                    self.assertEqual(outcome(call, one, wrong), outcome(call, other, wrong))


if __name__ == "__main__":
    unittest.main()
