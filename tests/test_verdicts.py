"""Section 12: verdict, top_why, shows_top_why."""

import random
import unittest

from emptywords.books import exchanged, is_product, product_word
from emptywords.errors import BadMost, BadWord, NoMachine
from emptywords.hands import is_empty
from emptywords.leading import led, pairs_of
from emptywords.pairs import Machine, comes
from emptywords.strips import Strip
from emptywords.top import lot, shows_top_why, top_why, verdict, word_of_pair
from emptywords.words import freed, moved, read_word
from tests.helping import SMALL, WIPE, StrictCase, any_values, backward, letters_freed, some_words
from tests.test_lots import SOME, THREE, TWO, drawn_words
from tests.test_products import BAD_PRODUCTS
from tests.test_words import BAD_WORDS
from tests.test_wrong_inputs import BAD_MOSTS


def by_the_document(machine, word, most):
    """What section 12 tells, and the word that is left."""
    left = []
    for letter, power in word:
        ks = [at for at, syllable in enumerate(left) if syllable[0] == "k"]
        if letter == "k" and ks and left[ks[-1]][1] == -power:
            told = lot(machine, tuple(left[ks[-1] + 1:]), most)
            if told[0] == "open":
                return told, None
            if told[0] == "in":
                del left[ks[-1]]
                continue
        left.append((letter, power))
    left = tuple(left)
    has_k = any(letter == "k" for letter, _ in left)
    return ("not",) if has_k or not is_empty(machine, left) else ("empty",), left


def drawn_with_k(machine, many, seed):
    """Words with k's behind one another and within one another, many of them empty."""
    chance = random.Random(seed)
    parts = iter(drawn_words(machine, 40 * many, seed))

    def within(depth):
        if depth == 0:
            return next(parts)
        word = ()
        for _ in range(chance.randint(1, 2)):
            sign, inner = chance.choice((1, -1)), within(depth - 1)
            word += (("k", sign),) + inner + (("k", -sign),)
            word += backward(inner) if chance.random() < 0.6 else next(parts)
        return word

    words = []
    for at in range(many):
        word = within(at % 4)
        if at % 3 == 0:
            for _ in range(3):
                word = letters_freed(word)
                row = chance.choice((("kt", 2), ("kt", -1), ("kh", 0), ("kh", 1), ("t", 0, 1), ("xy", 1, -1), ("x", 1, 1)))
                word = exchanged(machine, word, (chance.randint(0, len(word)), 0, row, chance.choice((1, -1))))
        words.append(word)
    return words


class Verdict(StrictCase):
    def told(self, machine, word, most):
        told = verdict(machine, word, most)
        self.same(told, by_the_document(machine, word, most)[0])
        return told

    def gives(self, text, wanted, most=9, machine=TWO):
        self.same(self.told(machine, read_word(machine, text), most), wanted if isinstance(wanted, tuple) else (wanted,))

    def test_without_k(self):
        for text in ("", "x 1 x -1", "x 1 y 1 x -1 y -1", "h0 -1 x 2 h0 1 x -4"):
            self.gives(text, "empty")
        # No run is asked for.
        self.gives("y -3 x -2 t 1 x 2 y 3 y -3 x -2 t -1 x 2 y 3", "empty", 1)
        for text in ("x 1", "t 1", "h0 1", "x 1 t 1 x -1 t -1"):
            self.gives(text, "not")

    def test_k_that_stays(self):
        for text in ("k 1", "k -1", "k 1 k 1", "k 1 t 1 k 1", "k 1 x 1 k -1 x -1", "k -1 x 1 t 1 x -1 k 1 x 1 t -1 x -1"):
            self.gives(text, "not")

    def test_k_beside_its_undoing(self):
        for text in ("k 1 k -1", "k -1 k 1", "k 1 k 1 k -1 k -1", "k 1 k -1 k -1 k 1", "k 1 x 1 x -1 k -1"):
            self.gives(text, "empty")
        self.gives("k 1 k -1 k 1", "not")
        self.gives("x 1 k 1 k -1", "not")

    def test_k_goes_with_t_and_hands(self):
        for text in ("k -1 t 5 k 1 t -5", "k 1 t 5 k -1 t -5", "k -1 h0 1 k 1 h0 -1", "k 1 h1 -1 k -1 h1 1", "k 1 h0 1 t 1 h0 -1 k -1 h0 1 t -1 h0 -1",
                     "t 1 k 1 t -1 k -1", "k -1 x 2 h1 1 x -1 k 1 h1 -1", "k 1 y 2 h0 1 y -1 k -1 h0 -1"):
            self.gives(text, "empty")
        for text in ("k -1 t 5 k 1 t -4", "k 1 h0 1 k -1 h1 -1", "k -1 x 2 h1 1 x -1 k 1 h1 1"):
            self.gives(text, "not")

    def test_nested_and_behind_one_another(self):
        self.gives("k 1 k -1 t 1 k 1 k -1 t -1", "empty")
        self.gives("k -1 k -1 t 1 k 1 h0 1 k 1 h0 -1 t -1", "empty")
        self.gives("k 1 x 1 k 1 k -1 x 1 k -1 x -2", "not")
        self.gives("k -1 t 1 k 1 k -1 h0 1 k 1 h0 -1 t -1", "empty")
        self.gives("k -1 t 1 k 1 k -1 x 1 k 1 x -1 t -1", "not")
        self.gives("k 1 t 1 k -1 x 1 k 1 t -1 k -1 x -1", "not")
        self.gives("k 1 t 1 k -1 t -1 x 1 k 1 t -1 k -1 t 1 x -1", "empty")
        self.gives("x 1 k -1 h0 1 k 1 h0 -1 x -1", "empty")

    def test_the_last_one_that_is_left(self):
        # Those within go out first; then what is left between the others is asked for.
        self.gives("k 1 x 1 k -1 t 1 k 1 t -1 x -1 k -1", "empty")
        # x stays between k and its undoing, and so k comes to stand behind them.
        self.gives("k 1 x 1 k -1 k 1 x -1 k -1", "empty")
        self.gives("k 1 x 1 k -1 t 1 k 1 x -1 k -1", "not")

    def test_words_of_pairs(self):
        self.same(self.told(TWO, word_of_pair((0, 0)), 1), ("empty",))
        self.same(self.told(TWO, word_of_pair((2, 1)), 2), ("empty",))
        self.same(self.told(TWO, word_of_pair((2, 1)), 1), ("open", (2, 1)))
        self.same(self.told(TWO, word_of_pair((2, 3)), 9), ("not",))
        self.same(self.told(SOME, word_of_pair((0, 1)), 400), ("open", (0, 1)))
        self.same(self.told(SOME, word_of_pair((-1, 1)), 1), ("not",))
        for a in range(-2, 7):
            for b in range(-2, 7):
                told = {"ends": ("empty",), "never": ("not",), "open": ("open", (a, b))}[comes(SOME, (a, b), 7)[0]]
                self.same(verdict(SOME, word_of_pair((a, b)), 7), told)

    def test_the_first_lot_that_is_open(self):
        one, other = word_of_pair((0, 1)), word_of_pair((0, 3))
        self.same(self.told(SOME, one + other, 9), ("open", (0, 1)))
        self.same(self.told(SOME, other + one, 9), ("open", (0, 3)))
        self.same(self.told(SOME, (("k", 1), ("x", 1)) + other, 9), ("open", (0, 3)))
        # What is out ahead of it does not stop the asking.
        self.same(self.told(SOME, word_of_pair((3, 0)) + other, 9), ("open", (0, 3)))
        self.same(self.told(SOME, (("x", 1),) + other, 9), ("open", (0, 3)))

    def test_as_the_word_is_handed_in(self):
        asking = (("k", 1),) + moved((0, 1), 1) + (("k", -1),)
        self.same(self.told(SOME, asking + backward(asking), 9), ("open", (0, 1)))
        self.same(self.told(SOME, letters_freed(asking + backward(asking)), 9), ("empty",))
        word = (("k", 1),) + moved((0, 1), 1) + (("h0", 1), ("h0", -1)) + moved((0, 1), -1) + (("k", -1),)
        self.same(self.told(SOME, word, 9), ("empty",))

    def test_many_words(self):
        found = {"empty": 0, "not": 0, "open": 0}
        for machine in (TWO, SOME, THREE):
            for word in drawn_with_k(machine, 150, 3) + some_words(("x", "t", "h0", "h1", "k", "k"), 60, 12, 1):
                for most in (1, 3, 20):
                    found[self.told(machine, word, most)[0]] += 1
        self.assertGreater(min(found.values()), 100)

    def test_what_is_told_stays_told(self):
        for word in drawn_with_k(SOME, 150, 7):
            told = [verdict(SOME, word, most) for most in (1, 2, 4, 30)]
            for one, other in zip(told, told[1:]):
                self.assertTrue(one[0] == "open" or one == other)
            if told[-1] != ("empty",):
                self.assertNotEqual(verdict(SOME, freed(SOME, word), 400), ("empty",))


class TopWhy(StrictCase):
    def right(self, machine, word, most):
        told = top_why(machine, word, most)
        wanted, left = by_the_document(machine, word, most)
        self.same((type(told), told[0]), (tuple, wanted[0]))
        if told[0] == "open":
            self.same(told, wanted)
        elif told[0] == "empty":
            self.assertEqual(len(told), 2)
            self.same(product_word(machine, told[1]), freed(machine, word))
            self.same(is_product(machine, word, told[1]), True)
        else:
            self.assertEqual(len(told), 2)
            self.same(verdict(machine, word + backward(told[1]), most), ("empty",))
            self.same(verdict(machine, told[1], most), ("not",))
            self.same(by_the_document(machine, told[1], most)[1], told[1])
        self.same(shows_top_why(machine, word, most, told), True)
        return told[0]

    def test_many_words(self):
        found = {"empty": 0, "not": 0, "open": 0}
        for machine in (TWO, SOME, THREE):
            for word in drawn_with_k(machine, 90, 11):
                for most in (2, 20):
                    found[self.right(machine, word, most)] += 1
        self.assertGreater(min(found.values()), 50)

    def test_words_of_pairs(self):
        for pair in ((0, 0), (1, 0), (2, 1), (1, 3), (5, 0), (3, 3), (-1, 1)):
            for word in (word_of_pair(pair), backward(word_of_pair(pair)), (("x", 3),) + word_of_pair(pair) + (("x", -3),)):
                self.right(SOME, word, 9)

    def test_k_undone_behind(self):
        for text in ("k 1 t 2 k -1 t -2", "k 1 h1 1 k -1 h1 -1", "k 1 h1 -1 k -1 h1 1", "k -1 h1 -1 k 1 h1 1", "k 1 y -1 x -2 t 1 x 2 y 1 k -1 y -1 x -2 t -1 x 2 y 1",
                     "k 1 x 2 h1 1 x -1 k -1 h1 -1", "h0 -1 k 1 h0 1 k -1", "k 1 k -1 t 1 k 1 t -1 k -1"):
            self.same(self.right(TWO, read_word(TWO, text), 9), "empty")

    def test_of_a_long_run(self):
        word = word_of_pair(pairs_of(Strip(WIPE), (0, (), (1,) * 40))[0])
        self.same(self.right(led(Strip(WIPE)), word, 42), "empty")
        self.same(self.right(led(Strip(WIPE)), word, 41), "open")
        self.same(self.right(led(Strip(WIPE)), word + (("x", 1),), 42), "not")

    def test_several_runs_within_k(self):
        inner = moved((2, 1), 1) + (("h1", -1),) + moved((1, 3), -2) + (("h0", 1),) + moved((1, 0), 1)
        word = (("k", -1),) + inner + (("k", 1),) + backward(inner)
        self.same(self.right(SOME, word, 9), "empty")
        word = (("k", 1),) + word + (("x", 2), ("t", 1), ("x", -2), ("k", -1), ("x", 2), ("t", -1), ("x", -2))
        self.same(self.right(SOME, word, 9), "not")


class ShowsTopWhy(StrictCase):
    empty = word_of_pair((2, 1))
    left = read_word(TWO, "k -1 h0 1 t 2 k 1 t -2 x 3")

    def gives(self, word, value, wanted, most=9):
        self.same(shows_top_why(TWO, word, most, value), wanted)

    def test_empty(self):
        paper = top_why(TWO, self.empty, 9)[1]
        self.gives(self.empty, ("empty", paper), True)
        turn = ((), ("xy", 1, 1))
        self.gives(self.empty, ("empty", (turn + (1,), turn + (-1,)) + paper), True)
        mover, row, sign = paper[1]
        wrong = [paper[:1] + ((mover, row, -sign),) + paper[2:], paper[1:], list(paper), (list(paper[0]),) + paper[1:], paper + (turn + (1,),), (),
                 paper[:1] + ((mover, row, sign == 1),) + paper[2:], None]
        for value in wrong + BAD_PRODUCTS:
            self.gives(self.empty, ("empty", value), False)
        for value in (("not", paper), ("empty",), ("empty", paper, 1), ["empty", paper], paper, ("open", paper), ("open", (2, 1)), (True, paper)):
            self.gives(self.empty, value, False)
        self.gives(self.empty, ("empty", paper), False, 1)

    def test_not(self):
        for text in ("h0 1 x 3", "h0 1 t 1 t -1 x 3", "h0 1 x 2 y 1 x 1 y -1", "x 1 x -1 h0 1 x 3", "h0 1 x 3 h1 1 h1 -1"):
            self.gives(self.left, ("not", read_word(TWO, text)), True)
        for text in ("h0 1 x 2", "h0 1", "", "h1 1 x 3", "h0 1 x 3 k 1", "h0 1 x 3 t 1"):
            self.gives(self.left, ("not", read_word(TWO, text)), False)
        right = read_word(TWO, "h0 1 x 3")
        for value in (["not", right], ("not", list(right)), ("not",), ("not", right, 1), right, ("empty", right), ("empty", ()), ("out", right),
                      ("not", None), ("not", (["h0", 1], ("x", 3)))):
            self.gives(self.left, value, False)
        for wrong in BAD_WORDS:
            self.gives(self.left, ("not", wrong), False)

    def test_no_k_may_be_left_that_goes_out(self):
        for text in ("k -1 h0 1 t 2 k 1 t -2 x 3", "h0 1 k 1 k -1 x 3", "h0 1 x 3 k -1 t 1 k 1 t -1", "h0 1 k 1 h1 1 k -1 h1 -1 x 3"):
            self.gives(self.left, ("not", read_word(TWO, text)), False)

    def test_not_with_k_that_stays(self):
        word = read_word(TWO, "k -1 x 1 k 1 k -1 t 1 k 1")
        self.same(top_why(TWO, word, 9), ("not", read_word(TWO, "k -1 x 1 t 1 k 1")))
        for text in ("k -1 x 1 t 1 k 1", "k -1 x 1 k 1 t 1", "k -1 x 2 x -1 k 1 t 1", "h0 1 h0 -1 k -1 x 1 t 1 k 1"):
            self.gives(word, ("not", read_word(TWO, text)), True)
        for text in ("k -1 x 1 t 1", "k -1 x 1 k 1", "k 1 x 1 k -1 t 1", "t 1 k -1 x 1 k 1", "k -1 x 1 k 1 k -1 t 1 k 1"):
            self.gives(word, ("not", read_word(TWO, text)), False)
        # t goes with k, so it may stand elsewhere.
        self.gives(read_word(TWO, "k 1 t 1"), ("not", read_word(TWO, "t 1 k 1")), True)
        self.gives(read_word(TWO, "k 1 x 1"), ("not", read_word(TWO, "x 1 k 1")), False)

    def test_not_where_a_lot_is_open(self):
        # Between its k's stands what is alike to x 1 t 1; with one step the run of (2, 1) is open.
        word, inner = read_word(TWO, "k 1 x 1 k -1"), moved((2, 1), 1)
        value = (("k", 1),) + inner + backward(inner) + (("x", 1), ("k", -1))
        self.gives(word, ("not", value), True, 1)
        value = (("k", 1),) + inner + (("x", 1), ("k", -1))
        word = (("k", 1),) + inner + (("h0", 1), ("h0", -1), ("x", 1), ("k", -1))
        self.gives(word, ("not", value), False, 1)
        self.gives(word, ("not", value), True, 2)

    def test_of_an_empty_word_nothing_else_is_right(self):
        for word in ((), read_word(TWO, "k 1 k -1"), read_word(TWO, "x 1 x -1")):
            self.gives(word, ("empty", ()), True)
            self.gives(word, ("not", ()), False)
            self.gives(word, ("not", word), False)

    def test_open(self):
        self.gives(self.empty, ("open", (2, 1)), True, 1)
        for value in (("open", (2, True)), ("open", [2, 1]), ["open", (2, 1)], ("open",), ("open", (1, 0)), ("open", (2, 1), 1), ("open", None),
                      ("not", self.empty), ("empty", ()), ("empty", top_why(TWO, self.empty, 9)[1])):
            self.gives(self.empty, value, False, 1)
        self.gives(self.empty, ("open", (2, 1)), False, 2)

    def test_any_value(self):
        for word, most in ((self.empty, 9), (self.empty, 1), (self.left, 9), ((), 9)):
            for value in any_values():
                self.gives(word, value, False, most)


class Wrong(StrictCase):
    def each(self, error, value, *arguments):
        for call in (verdict, top_why, lambda machine, word, most: shows_top_why(machine, word, most, ("empty", ())),
                     lambda machine, word, most: shows_top_why(machine, word, most, None)):
            self.refused(error, value, call, *arguments)

    def test_no_machine(self):
        for wrong in any_values():
            if not isinstance(wrong, Machine):
                self.each(NoMachine, wrong, wrong, (), 9)
                self.each(NoMachine, wrong, wrong, None, 0)

    def test_no_word(self):
        for wrong in [value for value in any_values() if value != ()] + BAD_WORDS:
            self.each(BadWord, wrong, TWO, wrong, 9)
            self.each(BadWord, wrong, TWO, wrong, 0)

    def test_no_most(self):
        for wrong in BAD_MOSTS:
            for word in ((), (("k", 1),), (("x", 1),), word_of_pair((2, 1))):
                self.each(BadMost, wrong, TWO, word, wrong)

    def test_by_names(self):
        self.same(verdict(most=9, word=(), machine=TWO), ("empty",))
        self.same(top_why(most=9, word=(), machine=TWO), ("empty", ()))
        self.same(shows_top_why(value=("empty", ()), most=9, word=(), machine=TWO), True)

    def test_nothing_is_changed(self):
        small, wrong = Machine(SMALL), [["not", [[]]]]
        self.same(shows_top_why(small, (), 9, wrong), False)
        self.refused(BadWord, wrong, verdict, small, wrong, 9)
        self.assertEqual(wrong, [["not", [[]]]])
        self.same((small.text, small.figures, small.rows), (SMALL, 2, Machine(SMALL).rows))


if __name__ == "__main__":
    unittest.main()
