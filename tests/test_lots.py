"""Section 12: lot, shows_lot, word_of_pair."""

import itertools
import random
import unittest

from emptywords.errors import BadMost, BadPair, BadWord, HasK, NoMachine
from emptywords.ground import times
from emptywords.hands import alike, passed, tower
from emptywords.pairs import Machine, comes, run
from emptywords.spelling import hands_word
from emptywords.top import lot, shows_lot, word_of_pair
from emptywords.words import moved, read_word
from tests.helping import SMALL, StrictCase, any_values, backward, letters_freed, some_words
from tests.test_words import BAD_WORDS
from tests.test_wrong_inputs import BAD_MOSTS, BAD_PAIRS

TWO = Machine("figures 2\nrow 1 0 0 right\nrow 0 1 0 left")
SOME = Machine("figures 2\nrow 1 0 0 right\nrow 0 1 3 left\nrow 1 1 1 right")
THREE = Machine("figures 3\nrow 1 0 4 right\nrow 2 1 7 left\nrow 0 2 5 right\nrow 2 2 0 left\nrow 1 1 0 left")
LETTERS = ("x", "y", "t", "h0", "h1")
NOTHING = ((), 0, 0)


def by_the_document(machine, word, most):
    """What section 12 tells, but with "in" alone; and the PAIRS that were asked for, in sequence."""
    told, asked = tower(machine, word), []
    here, at = told[0], 0
    while True:
        ts, p, q = here
        while ts:
            asked.append(ts[0][0])
            comes_told = comes(machine, ts[0][0], most)[0]
            if comes_told == "open":
                return ("open", ts[0][0]), asked
            if comes_told == "never":
                break
            ts = ts[1:]
        rest = (ts, p, q)
        if at == len(told) - 1:
            return (("in",) if rest == NOTHING else ("out",)), asked
        letter, power = told[at + 1]
        led = passed(machine, int(letter[1:]), rest, power)
        if led is None:
            return ("out",), asked
        here, at = times(led, told[at + 2]), at + 2


def drawn_words(machine, many, seed):
    """Words of moved t's, hands, and some x and y: many of them are in."""
    chance = random.Random(seed)
    pairs = [pair for pair in itertools.product(range(12), repeat=2) if comes(machine, pair, 20)[0] == "ends"]
    words = []
    for _ in range(many):
        word = ()
        for _ in range(chance.randint(0, 5)):
            kind = chance.randrange(8)
            if kind < 3:
                word += moved(chance.choice(pairs), chance.choice((-1, 1, 2)))
            elif kind < 5:
                word += ((f"h{chance.randrange(len(machine.rows))}", chance.choice((1, -1))),)
            elif kind < 6:
                word += (("t", chance.choice((-1, 1))),)
            elif kind < 7:
                word += moved((chance.randint(-2, 6), chance.randint(-2, 6)), 1)
            else:
                word += ((chance.choice("xy"), chance.choice((-2, -1, 1, 2))),)
        words.append(word)
    return words


class Lot(StrictCase):
    def told(self, machine, word, most):
        """The first item of what lot tells, everything about it being right."""
        told = lot(machine, word, most)
        wanted = by_the_document(machine, word, most)[0]
        if wanted == ("in",):
            self.same((type(told), len(told), told[0]), (tuple, 2, "in"))
            self.assertEqual([letter for letter, _ in told[1] if letter != "t" and letter[0] != "h"], [])
            self.same(alike(machine, word, told[1]), True)
        else:
            self.same(told, wanted)
        self.same(shows_lot(machine, word, most, told), True)
        return told[0]

    def gives(self, text, wanted, most=9, machine=TWO):
        self.same(self.told(machine, read_word(machine, text), most), wanted)

    def test_in(self):
        for text in ("", "t 5", "h0 1", "h0 1 h1 -1 t 2 h1 -1", "x 2 x -2 t 1", "y -1 x -2 t 1 x 2 y 1", "x 2 h1 1 x -1", "y 2 h0 1 y -1",
                     "x 1 h1 -1 x -2", "y 1 h0 -1 y -2 h1 1", "x -1 t 1 x 1 h0 1 t 1 y -1 t -2 y 1 h1 -1 y -4 x 4 y 4 x -4",
                     "x 2 h0 1 x -4 h1 1", "y 2 h1 1 y -4 h0 -1"):
            self.gives(text, "in")

    def test_the_word_told(self):
        for text in ("t 5", "h0 1 h1 -1 t 2 h1 -1"):
            self.same(lot(TWO, read_word(TWO, text), 9), ("in", read_word(TWO, text)))
        self.same(lot(TWO, read_word(TWO, "y -1 x -2 t 3 x 2 y 1"), 9)[0], "in")

    def test_out_by_a_length(self):
        for text in ("x 1", "y -1", "h0 1 x 1", "t 1 h1 -1 y 2", "x 2 h1 1 x -2", "x 1 h1 1 x -1", "y 3 h0 1", "x 2 y 2 h0 1 x -4"):
            self.gives(text, "out")

    def test_out_by_a_rest(self):
        self.gives("y -3 x -2 t 1 x 2 y 3 h0 1", "out")
        self.gives("y -2 t 1 y 2 h0 1", "out")
        self.gives("y -1 x -1 t 1 x 1 y 1 h0 1", "out")
        self.gives("y -1 x -1 t 1 x 1 y 1 h0 -1", "out")

    def test_out_by_a_pair_that_never_ends(self):
        self.gives("y -3 x -2 t 1 x 2 y 3", "out")
        self.gives("t 1 y -2 t 1 y 2 t 1", "out")
        self.gives("x 1 t 1 x -1", "out")
        # It is passed by the first hand, and not made of t and hands behind it, either.
        self.gives("y -3 x -2 t 1 x 2 y 3 h1 1", "out")
        self.gives("y -3 x -2 t 1 x 2 y 3 h1 1 h0 1", "out")

    def test_what_is_behind_a_hand_goes_out_with_what_went_by(self):
        # Moved by (2, 3), t becomes t moved by (1, 4), and the next one takes it away.
        self.same(run(TWO, (2, 3), 2), ((2, 3), (1, 4)))
        self.gives("y -3 x -2 t 1 x 2 y 3 h1 1 y -4 x -1 t -1 x 1 y 4", "in")
        self.gives("y -3 x -2 t 1 x 2 y 3 h1 1 y -4 x -1 t -2 x 1 y 4", "out")
        self.gives("x 4 h1 1 t 1 x -2 t 1 h1 1 h0 1", "out")
        self.gives("x 4 h1 1 x -1 h1 -1 x -2", "in")

    def test_just_enough_and_one_too_few(self):
        text = "y -1 x -2 t 1 x 2 y 1"
        for most, wanted in ((1, ("open", (2, 1))), (2, None), (400, None)):
            self.gives(text, "in" if wanted is None else "open", most)
            if wanted:
                self.same(lot(TWO, read_word(TWO, text), most), wanted)
        self.same(lot(SOME, moved((2, 1), 1), 3), ("open", (2, 1)))
        self.same(lot(SOME, moved((2, 1), 1), 4)[0], "in")

    def test_the_first_open_one_that_is_asked_for(self):
        one, other = moved((0, 1), 1), moved((0, 3), -2)
        self.same(lot(SOME, one + other, 400), ("open", (0, 1)))
        self.same(lot(SOME, other + one, 400), ("open", (0, 3)))
        self.same(lot(SOME, moved((1, 0), 1) + other + one, 9), ("open", (0, 3)))
        self.same(lot(SOME, moved((2, 1), 1) + other, 3), ("open", (2, 1)))
        # What never ends stops the asking; behind a hand it goes on.
        self.same(lot(SOME, moved((3, 0), 1) + other, 9), ("out",))
        self.same(lot(SOME, moved((3, 0), 1) + (("h0", 1),) + other, 9), ("out",))
        self.same(lot(SOME, (("h2", 1),) + other, 9), ("open", (0, 3)))
        self.same(lot(SOME, (("h2", 1), ("x", 1)) + other + (("x", -1),), 9), ("out",))

    def test_open_behind_later_hands(self):
        other = moved((0, 3), -2)
        self.same(lot(SOME, (("h2", 1), ("t", 2), ("h0", -1)) + other, 9), ("open", (0, 3)))
        self.same(lot(SOME, moved((2, 1), 1) + (("h1", 1),) + moved((0, 1), 1) + (("h0", 1),) + other, 9), ("open", (0, 1)))
        # (6, 1) never ends; it goes by h1 as (3, 3), which never ends, and by h2 as (5, 1).
        self.same(comes(SOME, (6, 1), 9)[0], "never")
        word = moved((6, 1), 1) + (("h1", 1), ("h2", 1))
        self.same([lot(SOME, word, 9), lot(SOME, word + moved((5, 1), -1) + other, 9)], [("out",), ("open", (0, 3))])
        self.same(lot(SOME, word + other, 9), ("out",))

    def test_asked_behind_a_hand_again(self):
        # (3, 0) never ends, so it goes by h0, and (4, 0), which it becomes, never ends either.
        self.same(by_the_document(SOME, moved((3, 0), 1) + (("h0", 1),) + moved((0, 1), 1), 9), (("out",), [(3, 0), (4, 0)]))
        self.gives("x -3 t 1 x 3 h0 1", "out", machine=SOME)
        self.same(lot(SOME, moved((0, 3), 1) + (("h1", 1),), 9), ("open", (0, 3)))

    def test_many_words(self):
        found = {"in": 0, "out": 0, "open": 0}
        for machine in (TWO, SOME, THREE):
            for word in drawn_words(machine, 250, 4) + some_words(LETTERS, 60, 8):
                for most in (1, 3, 20):
                    found[self.told(machine, word, most)] += 1
        self.assertGreater(min(found.values()), 100)

    def test_what_is_told_stays_told(self):
        for word in drawn_words(SOME, 150, 5):
            told = [lot(SOME, word, most) for most in (1, 2, 4, 30)]
            for one, other in zip(told, told[1:]):
                self.assertTrue(one[0] in ("open", other[0]))

    def test_as_it_is_handed_in(self):
        # Freed, h0 never comes to stand behind the moved t.
        word = moved((0, 1), 1) + (("h0", 1), ("h0", -1)) + moved((0, 1), -1)
        self.same(lot(SOME, word, 9), ("in", ()))

    def test_words_that_are_told_may_be_handed_in_again(self):
        for word in drawn_words(SOME, 60, 6):
            told = lot(SOME, word, 20)
            if told[0] == "in":
                self.same(lot(SOME, told[1], 20)[0], "in")
                self.same(lot(SOME, told[1] + backward(word), 20)[0], "in")


class ShowsLot(StrictCase):
    def gives(self, text, value, wanted, most=9):
        self.same(shows_lot(TWO, read_word(TWO, text), most, value), wanted)

    def test_in(self):
        text = "y -1 x -2 t 1 x 2 y 1"
        for told in ("h1 1 h0 1 t 1 h0 -1 h1 -1", "h0 1 h0 -1 h1 1 h0 1 t 1 h0 -1 h1 -1", "h1 1 h0 1 t 2 t -1 h0 -1 h1 -1"):
            self.gives(text, ("in", read_word(TWO, told)), True)
        for told in (text, "h1 1 h0 1 t 2 h0 -1 h1 -1", "h0 1 h1 1 t 1 h1 -1 h0 -1", "", "t 1", "k 1 k -1 h1 1 h0 1 t 1 h0 -1 h1 -1",
                     "x 1 x -1 h1 1 h0 1 t 1 h0 -1 h1 -1", "y 1 y -1 h1 1 h0 1 t 1 h0 -1 h1 -1"):
            self.gives(text, ("in", read_word(TWO, told)), False)
        right = read_word(TWO, "h1 1 h0 1 t 1 h0 -1 h1 -1")
        for value in (["in", right], ("in", list(right)), ("in",), ("in", right, 1), ("in", right[:-1]), right, ("in", (right,)), ("out",),
                      ("open", (2, 1)), ("out", right), ("open", right), (right, "in"), ("IN", right), ("in", None), (True, right)):
            self.gives(text, value, False)

    def test_in_of_the_empty_word(self):
        self.gives("", ("in", ()), True)
        self.gives("x 1 x -1", ("in", read_word(TWO, "h0 1 h0 -1")), True)
        self.gives("", ("in", read_word(TWO, "t 1")), False)
        for wrong in BAD_WORDS:
            self.gives("", ("in", wrong), False)

    def test_out(self):
        self.gives("x 1", ("out",), True)
        for value in (["out"], ("out", ()), ("out", None), "out", ("in", ()), ("in", read_word(TWO, "x 1")), ("open", (1, 0)), ("not",), ((),)):
            self.gives("x 1", value, False)

    def test_open(self):
        text = "y -1 x -2 t 1 x 2 y 1"
        self.gives(text, ("open", (2, 1)), True, 1)
        for value in (("open", (2, True)), ("open", [2, 1]), ["open", (2, 1)], ("open", (1, 0)), ("open",), ("open", (2, 1), 1), ("out",),
                      ("open", None), ("in", read_word(TWO, "h1 1 h0 1 t 1 h0 -1 h1 -1")), ("in", ()), (2, 1)):
            self.gives(text, value, False, 1)
        self.gives(text, ("open", (2, 1)), False, 2)

    def test_any_value(self):
        for text, most in (("y -1 x -2 t 1 x 2 y 1", 9), ("y -1 x -2 t 1 x 2 y 1", 1), ("x 1", 9), ("", 9)):
            for value in any_values():
                self.gives(text, value, False, most)


class WordOfPair(StrictCase):
    def test_syllable_by_syllable(self):
        for pair, text in (
            ((2, 1), "k -1 y -1 x -2 t 1 x 2 y 1 k 1 y -1 x -2 t -1 x 2 y 1"), ((0, 0), "k -1 t 1 k 1 t -1"),
            ((3, 0), "k -1 x -3 t 1 x 3 k 1 x -3 t -1 x 3"), ((0, -4), "k -1 y 4 t 1 y -4 k 1 y 4 t -1 y -4"),
            ((-1, 5), "k -1 y -5 x 1 t 1 x -1 y 5 k 1 y -5 x 1 t -1 x -1 y 5"),
        ):
            self.same(word_of_pair(pair), read_word(TWO, text))
            self.same(word_of_pair(pair=pair), letters_freed(read_word(TWO, text)))
        big = 10 ** 4000
        self.same(word_of_pair((big, 0))[1:4], (("x", -big), ("t", 1), ("x", big)))

    def test_no_pair(self):
        for wrong in any_values() + BAD_PAIRS:
            self.refused(BadPair, wrong, word_of_pair, wrong)


class Wrong(StrictCase):
    def each(self, error, value, *arguments):
        for call in (lot, lambda machine, word, most: shows_lot(machine, word, most, ("in", ())),
                     lambda machine, word, most: shows_lot(machine, word, most, None)):
            self.refused(error, value, call, *arguments)

    def test_no_machine(self):
        for wrong in any_values():
            if not isinstance(wrong, Machine):
                self.each(NoMachine, wrong, wrong, (), 9)
                self.each(NoMachine, wrong, wrong, None, 0)
                self.each(NoMachine, wrong, wrong, (("k", 1),), 0)

    def test_no_word(self):
        for wrong in [value for value in any_values() if value != ()] + BAD_WORDS:
            self.each(BadWord, wrong, TWO, wrong, 9)
            self.each(BadWord, wrong, TWO, wrong, 0)

    def test_the_first_k_ahead_of_most(self):
        for number, text in ((0, "k 1"), (0, "k 1 k -1"), (2, "x 1 x -1 k 1 k 1"), (3, "h0 1 h0 -1 t 1 k -1")):
            for most in (9, 0, None):
                for call in (lot, lambda machine, word, most: shows_lot(machine, word, most, None)):
                    self.refused_number(HasK, number, call, TWO, read_word(TWO, text), most)

    def test_no_most(self):
        for wrong in BAD_MOSTS:
            for word in ((), (("x", 1),), moved((2, 1), 1)):
                self.each(BadMost, wrong, TWO, word, wrong)

    def test_by_names(self):
        self.same(lot(most=9, word=(), machine=TWO), ("in", ()))
        self.same(shows_lot(value=("out",), most=9, word=(("x", 1),), machine=TWO), True)

    def test_nothing_is_changed(self):
        small, wrong = Machine(SMALL), [["in", [[]]]]
        self.same(shows_lot(small, (), 9, wrong), False)
        self.refused(BadWord, wrong, lot, small, wrong, 9)
        self.assertEqual(wrong, [["in", [[]]]])
        self.same((small.text, small.figures, small.rows), (SMALL, 2, Machine(SMALL).rows))
        self.same(hands_word(small, (6, 1), 9), (("h1", 1), ("h2", 1), ("h0", 1)))


if __name__ == "__main__":
    unittest.main()
