"""Section 9: product_word, is_product, singles, product_of."""

import unittest

from emptywords.books import exchanged, is_product, product_of, product_word, row_word, singles
from emptywords.errors import BadExchange, BadProduct, BadWord, NoMachine, NotEmpty
from emptywords.pairs import Machine
from emptywords.words import read_word
from tests.helping import SMALL, StrictCase, any_values, backward, letters_freed, some_words
from tests.test_books import BAD_ROWS
from tests.test_words import BAD_WORDS

TWO = Machine("figures 2\nrow 1 0 0 left\nrow 0 1 1 right")
LETTERS = ("x", "y", "t", "k", "h0", "h1")
ROWS = (("xy", 1, 1), ("xy", 2, -1), ("x", 0, -1), ("x", 1, 2), ("y", 0, 1), ("y", 1, -1), ("t", 0, 1), ("t", 1, -2),
        ("kt", 1), ("kt", -3), ("kh", 0), ("kh", 1))
BIG = 10 ** 4000 + 7
PART = ((("x", 1),), ("xy", 1, 1), 1)


def some_products():
    """Products of none to seven moved rows, always the same ones."""
    words = some_words(LETTERS, 200, 6)
    products, at = [], 0
    for many in range(8):
        for _ in range(6):
            parts = [(words[at + k], ROWS[(at + 5 * k) % 12], 1 if (at + k) % 3 else -1) for k in range(many)]
            products.append(tuple(parts))
            at += many
    return products


def told_by(product):
    word = ()
    for mover, row, sign in product:
        told = row_word(TWO, row)
        word += mover + (told if sign == 1 else backward(told)) + backward(mover)
    return letters_freed(word)


BAD_PRODUCTS = [
    [], [PART], PART, (list(PART),), (PART[:2],), (PART + (1,),), (PART, None), (PART, ()), (PART, [PART]), {0: PART}, "x 1",
    (((), None, 1),), (((), ["xy", 1, 1], 1),), (((), ("xy", 0, 1), 1),), (((), ("x", 2, 1), 1),), (((), ("kh", True), 1),),
    (((), ("xy", 1, 1), 0),), (((), ("xy", 1, 1), 2),), (((), ("xy", 1, 1), -2),), (((), ("xy", 1, 1), True),),
    (((), ("xy", 1, 1), None),), (((), ("xy", 1, 1), "1"),), (((), ("xy", 1, 1), (1,)),), ((None, ("xy", 1, 1), 1),),
    (([], ("xy", 1, 1), 1),), ((("x", 1), ("xy", 1, 1), 1),), (((("x", 0),), ("xy", 1, 1), 1),),
    (((("h2", 1),), ("xy", 1, 1), 1),), (((("x", True),), ("xy", 1, 1), 1),), (("x 1", ("xy", 1, 1), 1),),
    ((("xy", 1, 1), (), 1),), (((), 1, ("xy", 1, 1)),), (TWO,), ((TWO, ("xy", 1, 1), 1),), (((), TWO, 1),),
]


class ProductWord(StrictCase):
    def gives(self, product, text):
        self.same(product_word(TWO, product), read_word(TWO, text))

    def test_none(self):
        self.gives((), "")

    def test_one(self):
        self.gives((((), ("xy", 2, 1), 1),), "x 2 y 1 x -2 y -1")
        self.gives((((), ("xy", 2, 1), -1),), "y 1 x 2 y -1 x -2")
        self.gives((((("k", 1),), ("kt", 1), 1),), "t 1 k 1 t -1 k -1")
        self.gives((((("h1", 1), ("t", 2)), ("x", 0, 1), -1),), "h1 1 t 2 x 1 h0 -1 x -2 h0 1 t -2 h1 -1")

    def test_movers_that_are_not_freed(self):
        self.gives((((("y", 1), ("y", -1), ("x", 1), ("x", -1)), ("kh", 0), 1),), "k -1 h0 1 k 1 h0 -1")
        self.gives((((("x", 1), ("x", 1)), ("kt", 1), 1),), "x 2 k -1 t 1 k 1 t -1 x -2")

    def test_several(self):
        turn = ((), ("xy", 1, 1), 1)
        self.gives((turn, turn), "x 1 y 1 x -1 y -1 x 1 y 1 x -1 y -1")
        self.gives((turn, ((), ("xy", 1, 1), -1)), "")
        self.gives((((("x", 1),), ("xy", 1, 1), 1), turn), "x 2 y 1 x -2 y -1")
        self.gives((turn, ((("x", 1),), ("xy", 1, 1), 1)), "x 1 y 1 x -1 y -1 x 2 y 1 x -1 y -1 x -1")

    def test_some(self):
        for product in some_products():
            self.same(product_word(TWO, product), told_by(product))
            turned = tuple((mover, row, -sign) for mover, row, sign in reversed(product))
            self.same(product_word(TWO, product + turned), ())

    def test_many_figures(self):
        self.same(product_word(TWO, (((("x", BIG),), ("xy", -BIG, BIG), 1),)), (("y", BIG), ("x", BIG), ("y", -BIG), ("x", -BIG)))

    def test_no_product(self):
        for wrong in [value for value in any_values() if value != ()] + BAD_PRODUCTS:
            with self.subTest(value=wrong):
                self.refused(BadProduct, wrong, product_word, TWO, wrong)
                self.refused(BadProduct, wrong, singles, TWO, wrong)
        for row in BAD_ROWS:
            self.refused(BadProduct, wrong := (PART, ((), row, 1)), product_word, TWO, wrong)
        for word in BAD_WORDS:
            self.refused(BadProduct, wrong := (PART, (word, ("kt", 1), 1)), product_word, TWO, wrong)


class IsProduct(StrictCase):
    def test_its_word_and_all_that_are_the_same_freed(self):
        for product in some_products():
            word = told_by(product)
            self.same(is_product(TWO, word, product), True)
            self.same(is_product(TWO, (("k", 1), ("k", -1)) + word + (("x", 1), ("x", -1)), product), True)
            self.same(is_product(TWO, word + (("t", 1),), product), False)
            self.same(is_product(TWO, word, product + (PART,)), False)

    def test_the_empty_word(self):
        self.same(is_product(TWO, (), ()), True)
        self.same(is_product(TWO, (("x", 1), ("x", -1)), ()), True)
        self.same(is_product(TWO, (("x", 1),), ()), False)
        self.same(is_product(TWO, (), (PART,)), False)
        self.same(is_product(TWO, (), (PART, PART[:2] + (-1,))), True)

    def test_movers_that_are_not_freed(self):
        word = read_word(TWO, "x 2 y 1 x -1 y -1 x -1")
        for mover in ("x 1", "x 2 x -1", "k 1 k -1 x 1", "x 1 h0 1 h0 -1"):
            self.same(is_product(TWO, word, ((read_word(TWO, mover), ("xy", 1, 1), 1),)), True)

    def test_any_value(self):
        word = told_by((PART,))
        for value in any_values() + BAD_PRODUCTS:
            with self.subTest(value=value):
                self.same(is_product(TWO, word, value), False)
                self.same(is_product(TWO, (), value), value == ())
        for row in BAD_ROWS:
            self.same(is_product(TWO, word, (PART, ((), row, 1), ((), row, -1))), False)

    def test_true_is_not_1(self):
        word = read_word(TWO, "x 1 y 1 x -1 y -1")
        self.same(is_product(TWO, word, (((), ("xy", 1, 1), 1),)), True)
        for value in ((((), ("xy", True, 1), 1),), (((), ("xy", 1, 1), True),)):
            self.same(is_product(TWO, word, value), False)


class Singles(StrictCase):
    def test_the_sum_of_worths(self):
        self.same(singles(TWO, ()), 0)
        self.same(singles(TWO, (PART,)), 1)
        self.same(singles(TWO, (PART, PART, ((), ("xy", -2, 3), -1), ((), ("kh", 0), 1))), 9)
        self.same(singles(TWO, (((("t", 1),), ("t", 1, -4), -1), ((), ("kt", 5), 1), ((), ("y", 0, -1), 1))), 10)
        self.same(singles(TWO, (((), ("kt", BIG), 1), ((), ("kt", -BIG), 1))), 2 * BIG)


class ProductOf(StrictCase):
    turn = ("xy", 1, 1)
    ring = read_word(TWO, "x 2 y 1 x -2 y -1")

    def test_no_exchanges(self):
        self.same(product_of(TWO, (), ()), ())
        self.same(product_of(TWO, (("x", 1), ("k", 1), ("k", -1), ("x", -1)), ()), ())

    def test_one(self):
        self.same(product_of(TWO, self.ring, ((0, 0, ("xy", 2, 1), -1),)), (((), ("xy", 2, 1), 1),))
        self.same(product_of(TWO, self.ring, ((4, 0, ("xy", 2, 1), -1),)), ((self.ring, ("xy", 2, 1), 1),))
        self.same(product_of(TWO, backward(self.ring), ((0, 0, ("xy", 2, 1), 1),)), (((), ("xy", 2, 1), -1),))

    def test_with_cut(self):
        self.same(product_of(TWO, self.ring, ((0, 1, self.turn, -1), (0, 0, self.turn, -1))),
                  (((("x", 1),), self.turn, 1), ((), self.turn, 1)))
        back = ("xy", -1, 1)
        self.same(product_of(TWO, read_word(TWO, "x -2 y 1 x 2 y -1"), ((0, -1, back, -1), (0, 0, back, -1))),
                  (((("x", -1),), back, 1), ((), back, 1)))
        word = read_word(TWO, "y -3 t 1 k -1 t -1 k 1 y 3")
        self.same(product_of(TWO, word, ((0, -1, self.turn, 1), (1, 0, self.turn, -1), (1, 0, ("kt", 1), 1))),
                  (((("y", -1),), self.turn, -1), ((("y", -1),), self.turn, 1), ((("y", -3),), ("kt", 1), -1)))

    def test_of_words_that_are_not_freed(self):
        word = (("x", 1), ("x", 1), ("k", 1), ("k", -1)) + self.ring[1:]
        self.same(product_of(TWO, word, ((0, 1, self.turn, -1), (0, 0, self.turn, -1))),
                  (((("x", 1),), self.turn, 1), ((), self.turn, 1)))

    def test_its_word_is_the_word(self):
        found = 0
        for at, mover in enumerate(some_words(LETTERS, 300, 6)):
            # Rows are put into the empty word, where they can be taken out again, and are taken out.
            word, back = (), []
            for step in range(1 + at % 4):
                row, sign = ROWS[(at + 5 * step) % 12], 1 if (at + step) % 2 else -1
                ahead = letters_freed(mover[step:] if step % 2 else word[:2 * step])
                for move in self.moves(word, ahead, row, sign):
                    behind = exchanged(TWO, word, move)
                    taken = self.moves(behind, ahead, row, -sign)
                    if taken and exchanged(TWO, behind, taken[0]) == word:
                        word, back = behind, taken + back
            paper = product_of(TWO, word, tuple(back))
            self.same([part[1:] for part in paper], [(row, -sign) for _, _, row, sign in back])
            self.same(product_word(TWO, paper), word)
            self.same(told_by(paper), word)
            found += len(paper)
        self.assertGreater(found, 300)

    def moves(self, word, mover, row, sign):
        """The list of the EXCHANGE that puts in behind this mover; [] if the word does not begin with it."""
        for at in range(len(word) + 1):
            for cut in self.cuts(word[at:]):
                if word[:at] + (((word[at][0], cut),) if cut else ()) == mover:
                    return [(at, cut, row, sign)]
        return []

    def cuts(self, rest):
        if not rest or rest[0][0] not in ("x", "y", "t"):
            return [0]
        return [0, *range(1, rest[0][1]), *range(rest[0][1] + 1, 0)]

    def test_no_tuple(self):
        for wrong in any_values() + [[(0, 0, self.turn, -1)], {0: (0, 0, self.turn, -1)}]:
            if not isinstance(wrong, tuple):
                self.refused(BadExchange, wrong, product_of, TWO, self.ring, wrong)
                self.refused(BadExchange, wrong, product_of, TWO, (), wrong)

    def test_the_first_that_is_none(self):
        good, late = (0, 1, self.turn, -1), (0, 0, self.turn, -1)
        for wrong in [
            None, 0, [0, 0, self.turn, 1], (), (0, 0, self.turn), (-1, 0, self.turn, 1), (9, 0, self.turn, 1),
            (0, 2, self.turn, 1), (0, ("x", 1), self.turn, 1), (0, 0, ("xy", 0, 1), 1), (0, 0, self.turn, 0),
            (0, 0, self.turn, True), (True, 0, self.turn, 1), (0, False, self.turn, 1),
        ]:
            self.refused(BadExchange, wrong, product_of, TWO, self.ring, (wrong,))
            self.refused(BadExchange, wrong, product_of, TWO, self.ring, (good, late, wrong))
            self.refused(BadExchange, wrong, product_of, TWO, self.ring, (good, late, wrong, [], None))
            self.refused(BadExchange, wrong, product_of, TWO, self.ring, (good, wrong, late))

    def test_each_goes_by_the_word_as_it_stands_then(self):
        take = (0, 0, ("xy", 2, 1), -1)
        self.refused(BadExchange, then := (1, 0, self.turn, 1), product_of, TWO, self.ring, (take, then))
        self.refused(BadExchange, then := (0, 1, self.turn, 1), product_of, TWO, self.ring, (take, then))
        back = (0, 0, ("xy", 2, 1), 1)
        self.same(product_of(TWO, self.ring, (take, back, take)),
                  (((), ("xy", 2, 1), 1), ((), ("xy", 2, 1), -1), ((), ("xy", 2, 1), 1)))

    def test_not_empty(self):
        for word, exchanges, left in (
            ("x 1", (), "x 1"), ("x 1 x 1 k 1 k -1", (), "x 2"), ("x 2 y 1 x -2 y -1", ((0, 1, self.turn, -1),), "x 1 y 1 x -1 y -1"),
            ("", ((0, 0, self.turn, 1),), "x 1 y 1 x -1 y -1"), ("k 1", ((1, 0, ("kt", 2), 1),), "t 2 k 1 t -2"),
        ):
            with self.assertRaises(NotEmpty) as caught:
                product_of(TWO, read_word(TWO, word), exchanges)
            self.same(caught.exception.value, read_word(TWO, left))

    def test_bad_exchange_ahead_of_not_empty(self):
        self.refused(BadExchange, wrong := (5, 0, self.turn, 1), product_of, TWO, (("x", 1),), (wrong,))


class Wrong(StrictCase):
    def test_no_machine(self):
        for wrong in any_values():
            if not isinstance(wrong, Machine):
                for product in ((), None):
                    self.refused(NoMachine, wrong, product_word, wrong, product)
                    self.refused(NoMachine, wrong, singles, wrong, product)
                for word, value in (((), ()), ([], None)):
                    self.refused(NoMachine, wrong, is_product, wrong, word, value)
                    self.refused(NoMachine, wrong, product_of, wrong, word, value)

    def test_no_word(self):
        for wrong in [value for value in any_values() if value != ()] + BAD_WORDS:
            with self.subTest(value=wrong):
                for value in ((), None):
                    self.refused(BadWord, wrong, is_product, TWO, wrong, value)
                    self.refused(BadWord, wrong, product_of, TWO, wrong, value)

    def test_by_names(self):
        self.same(product_word(product=(PART,), machine=TWO), told_by((PART,)))
        self.same(singles(product=(PART,), machine=TWO), 1)
        self.same(is_product(value=(PART,), word=told_by((PART,)), machine=TWO), True)
        self.same(product_of(exchanges=(), word=(), machine=TWO), ())

    def test_nothing_is_changed(self):
        wrong = [[[["x", 1]], ["xy", 1, 1], 1]]
        self.refused(BadProduct, wrong, product_word, Machine(SMALL), wrong)
        self.refused(BadExchange, wrong, product_of, Machine(SMALL), (), wrong)
        self.same(is_product(Machine(SMALL), (), wrong), False)
        self.assertEqual(wrong, [[[["x", 1]], ["xy", 1, 1], 1]])


if __name__ == "__main__":
    unittest.main()
