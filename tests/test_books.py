"""Section 9: row_word, worth, book, exchanged."""

import itertools
import unittest

from emptywords.books import book, exchanged, product_word, row_word, worth
from emptywords.errors import BadExchange, BadRow, BadWord, NoMachine
from emptywords.pairs import Machine, follows
from emptywords.words import moved, read_word
from tests.helping import SMALL, StrictCase, any_values, backward, letters_freed, nested, some_words
from tests.test_words import BAD_WORDS

TWO = Machine("figures 2\nrow 1 0 0 left\nrow 0 1 1 right")
THREE = Machine("figures 3\nrow 1 2 4 right\nrow 0 2 7 left\nrow 2 0 0 right\nrow 1 1 0 left")
BIG = 10 ** 4000 + 7
BAD_ROWS = [
    [], ["xy", 1, 1], ("xy",), ("xy", 1), ("xy", 1, 1, 1), ("xy", 0, 1), ("xy", 1, 0), ("xy", True, 1), ("xy", 1, False),
    ("xy", None, 1), ("xy", 1, "1"), ("xy", (1,), 1), ("yx", 1, 1), ("", 1, 1), (0, 1, 1), (None, 1, 1), (("x",), 1, 1),
    (["x"], 1, 1), ({}, 1, 1), ("X", 0, 1), ("k", 1), ("h0", 1), ("tk", 1), ("KT", 1), ("xt", 0, 1),
    ("x",), ("x", 0), ("x", 0, 1, 1), ("x", 2, 1), ("x", -1, 1), ("x", True, 1), ("x", False, 1), ("x", None, 1),
    ("x", "0", 1), ("x", 0, 0), ("x", 0, True), ("x", 0, None), ("x", 0, "1"), ("x", (0,), 1), ("x", 1.5, 1),
    ("y",), ("y", 0), ("y", 0, 0), ("y", 2, 1), ("y", -1, 1), ("y", True, 1), ("y", 0, False), ("y", 0, 1, 1),
    ("t",), ("t", 0), ("t", 0, 0), ("t", 2, 1), ("t", -1, 1), ("t", True, 1), ("t", 0, True), ("t", 0, 1, 1),
    ("kt",), ("kt", 0), ("kt", True), ("kt", None), ("kt", "1"), ("kt", 1, 1), ("kt", 0, 1), ("kt", [1]),
    ("kh",), ("kh", 2), ("kh", -1), ("kh", True), ("kh", False), ("kh", None), ("kh", "0"), ("kh", 0, 1), ("kh", (0,)),
    ("xy", 1, TWO), (TWO, 0, 1), ("x", TWO, 1), ("xy", 1, nested(50, lambda value: (value,))),
]


class RowWord(StrictCase):
    def gives(self, machine, row, text):
        self.same(row_word(machine, row), read_word(machine, text))

    def test_xy(self):
        self.gives(TWO, ("xy", 1, 1), "x 1 y 1 x -1 y -1")
        self.gives(TWO, ("xy", -2, 3), "x -2 y 3 x 2 y -3")
        self.gives(TWO, ("xy", -1, -4), "x -1 y -4 x 1 y 4")

    def test_x(self):
        self.gives(THREE, ("x", 0, 1), "h0 -1 x 3 h0 1 x -9")
        self.gives(THREE, ("x", 1, 1), "h1 -1 x 3 h1 1 x -1")
        self.gives(THREE, ("x", 2, -2), "h2 -1 x -6 h2 1 x 18")
        self.gives(THREE, ("x", 3, -2), "h3 -1 x -6 h3 1 x 2")

    def test_y(self):
        self.gives(THREE, ("y", 0, 1), "h0 -1 y 3 h0 1 y -1")
        self.gives(THREE, ("y", 1, 1), "h1 -1 y 3 h1 1 y -9")
        self.gives(THREE, ("y", 2, -2), "h2 -1 y -6 h2 1 y 2")
        self.gives(THREE, ("y", 3, -2), "h3 -1 y -6 h3 1 y 18")

    def test_t(self):
        self.gives(THREE, ("t", 0, 1), "h0 -1 y -2 x -1 t 1 x 1 y 2 h0 1 x -4 t -1 x 4")
        self.gives(THREE, ("t", 0, -3), "h0 -1 y -2 x -1 t -3 x 1 y 2 h0 1 x -4 t 3 x 4")
        self.gives(THREE, ("t", 1, 2), "h1 -1 y -2 t 2 y 2 h1 1 y -7 t -2 y 7")
        self.gives(THREE, ("t", 1, -1), "h1 -1 y -2 t -1 y 2 h1 1 y -7 t 1 y 7")
        self.gives(THREE, ("t", 2, 1), "h2 -1 x -2 t 1 x 2 h2 1 t -1")
        self.gives(THREE, ("t", 3, -5), "h3 -1 y -1 x -1 t -5 x 1 y 1 h3 1 t 5")

    def test_kt_and_kh(self):
        self.gives(THREE, ("kt", 1), "k -1 t 1 k 1 t -1")
        self.gives(THREE, ("kt", -4), "k -1 t -4 k 1 t 4")
        self.gives(THREE, ("kh", 0), "k -1 h0 1 k 1 h0 -1")
        self.gives(THREE, ("kh", 3), "k -1 h3 1 k 1 h3 -1")

    def test_many_figures(self):
        self.same(row_word(TWO, ("xy", BIG, -BIG)), (("x", BIG), ("y", -BIG), ("x", -BIG), ("y", BIG)))
        self.same(row_word(TWO, ("y", 0, BIG)), (("h0", -1), ("y", 2 * BIG), ("h0", 1), ("y", -4 * BIG)))
        self.same(row_word(TWO, ("kt", -BIG)), (("k", -1), ("t", -BIG), ("k", 1), ("t", BIG)))

    def test_t_by_a_hand_goes_as_pairs_do(self):
        for machine in (TWO, THREE):
            for number, (one, other, _, _) in enumerate(machine.rows):
                hand, power = f"h{number}", number - 5
                behind = follows(machine, (one, other))
                wanted = ((hand, -1),) + moved((one, other), power) + ((hand, 1),) + backward(moved(behind, power))
                self.same(row_word(machine, ("t", number, power)), wanted)

    def test_all_are_freed(self):
        for machine in (TWO, THREE):
            for number, power in itertools.product(range(len(machine.rows)), (-2, -1, 1, 2)):
                for row in (("x", number, power), ("y", number, power), ("t", number, power), ("kh", number),
                            ("kt", power), ("xy", power, number + 1)):
                    self.same(row_word(machine, row), letters_freed(row_word(machine, row)))

    def test_the_80th_hand(self):
        machine = Machine("figures 9\n" + "\n".join(f"row {at // 9} {at % 9} {at} left" for at in range(80, 0, -1)))
        self.gives(machine, ("x", 79, 1), "h79 -1 x 9 h79 1 x -1")
        self.refused(BadRow, row := ("x", 80, 1), row_word, machine, row)


class Worth(StrictCase):
    def test_worth(self):
        for row, wanted in (
            (("xy", 1, 1), 1), (("xy", 2, 3), 6), (("xy", -2, 3), 6), (("xy", 5, -7), 35), (("xy", -5, -7), 35),
            (("x", 1, 4), 4), (("x", 1, -4), 4), (("y", 1, 1), 1), (("y", 0, -9), 9), (("t", 1, 3), 3), (("t", 0, -1), 1),
            (("kt", 6), 6), (("kt", -6), 6), (("kh", 0), 1), (("kh", 1), 1), (("xy", BIG, -2), 2 * BIG), (("t", 1, -BIG), BIG),
        ):
            self.same(worth(TWO, row), wanted)


class Book(StrictCase):
    def test_the_words_in_their_sequence(self):
        self.same(book(TWO), tuple(read_word(TWO, text) for text in (
            "x 1 y 1 x -1 y -1",
            "h0 -1 x 2 h0 1 x -1", "h0 -1 y 2 h0 1 y -4", "h0 -1 x -1 t 1 x 1 h0 1 t -1",
            "h1 -1 x 2 h1 1 x -4", "h1 -1 y 2 h1 1 y -1", "h1 -1 y -1 t 1 y 1 h1 1 x -1 t -1 x 1",
            "k -1 t 1 k 1 t -1", "k -1 h0 1 k 1 h0 -1", "k -1 h1 1 k 1 h1 -1",
        )))

    def test_by_its_rows(self):
        for machine in (TWO, THREE, Machine(SMALL), Machine("figures 9\nrow 8 8 80 left")):
            rows = [("xy", 1, 1)]
            for number in range(len(machine.rows)):
                rows += [("x", number, 1), ("y", number, 1), ("t", number, 1)]
            rows += [("kt", 1)] + [("kh", number) for number in range(len(machine.rows))]
            self.same(book(machine), tuple(row_word(machine, row) for row in rows))
            self.same([worth(machine, row) for row in rows], [1] * (4 * len(machine.rows) + 2))


class Exchanged(StrictCase):
    def gives(self, text, exchange, wanted):
        self.same(exchanged(TWO, read_word(TWO, text), exchange), read_word(TWO, wanted))

    def test_with_cut_0(self):
        word, row = "x 2 h0 1 k -1", ("xy", 3, 4)
        self.gives(word, (0, 0, row, 1), "x 3 y 4 x -3 y -4 x 2 h0 1 k -1")
        self.gives(word, (1, 0, row, 1), "x 5 y 4 x -3 y -4 h0 1 k -1")
        self.gives(word, (2, 0, row, 1), "x 2 h0 1 x 3 y 4 x -3 y -4 k -1")
        self.gives(word, (3, 0, row, 1), "x 2 h0 1 k -1 x 3 y 4 x -3 y -4")

    def test_undone(self):
        word, row = "x 2 h0 1 k -1", ("xy", 3, 4)
        self.gives(word, (0, 0, row, -1), "y 4 x 3 y -4 x -1 h0 1 k -1")
        self.gives(word, (2, 0, row, -1), "x 2 h0 1 y 4 x 3 y -4 x -3 k -1")
        self.gives(word, (3, 0, ("kh", 0), -1), "x 2 h0 1 k -1 h0 1 k -1 h0 -1 k 1")

    def test_within_a_syllable_of_positive_power(self):
        self.gives("x 3", (0, 1, ("kt", 2), 1), "x 1 k -1 t 2 k 1 t -2 x 2")
        self.gives("x 3", (0, 2, ("kt", 2), -1), "x 2 t 2 k -1 t -2 k 1 x 1")
        self.gives("k 1 t 2 y 3", (2, 2, ("xy", 1, 1), -1), "k 1 t 2 y 3 x 1 y -1 x -1 y 1")
        self.gives("k 1 t 2 y 3", (1, 1, ("kh", 1), 1), "k 1 t 1 k -1 h1 1 k 1 h1 -1 t 1 y 3")

    def test_within_a_syllable_of_negative_power(self):
        self.gives("y -3", (0, -1, ("kt", 2), 1), "y -1 k -1 t 2 k 1 t -2 y -2")
        self.gives("y -3", (0, -2, ("kt", -2), -1), "y -2 t -2 k -1 t 2 k 1 y -1")
        self.gives("h1 -1 t -2", (1, -1, ("x", 0, 1), 1), "h1 -1 t -1 h0 -1 x 2 h0 1 x -1 t -1")

    def test_of_the_empty_word(self):
        self.gives("", (0, 0, ("xy", -1, 2), 1), "x -1 y 2 x 1 y -2")
        self.gives("x 1 x -1", (0, 0, ("t", 0, 1), -1), "t 1 h0 -1 x -1 t -1 x 1 h0 1")

    def test_what_comes_is_freed(self):
        self.gives("y 1 x 2", (0, 0, ("xy", 2, 1), 1), "x 2 y 1")
        self.gives("x 1 y 1 x -1 y -1", (0, 0, ("xy", 1, 1), -1), "")
        self.gives("x 1 y 1 x -1 y -1", (4, 0, ("xy", 1, 1), -1), "")
        self.gives("x 1 h0 1 x 4 h0 -1", (1, 0, ("x", 0, 4), 1), "x 1 h0 -1 x 8 h0 1 x -4 h0 1 x 4 h0 -1")
        self.gives("h0 1 x 1", (0, 0, ("x", 0, 1), -1), "x 1 h0 -1 x -2 h0 1 h0 1 x 1")
        self.gives("h0 -1 x 2", (0, 0, ("x", 0, 1), -1), "x 1 h0 -1")

    def test_of_words_that_are_not_freed(self):
        self.gives("x 1 x 1 y 1 y -1 x 1", (0, 2, ("kt", 1), 1), "x 2 k -1 t 1 k 1 t -1 x 1")
        self.gives("x 1 x 1 y 1 y -1 x 1", (1, 0, ("kt", 1), 1), "x 3 k -1 t 1 k 1 t -1")
        self.gives("k 1 k -1 t 5 h0 1 h0 -1 t -3 h1 1", (1, 0, ("kh", 1), 1), "t 2 k -1 h1 1 k 1")
        word = read_word(TWO, "x 1 x 1 y 1 y -1 x 1")
        for at in range(2, 6):
            self.refused(BadExchange, exchange := (at, 0, ("kt", 1), 1), exchanged, TWO, word, exchange)

    def test_many_figures(self):
        word = (("x", BIG), ("h0", 1))
        self.same(exchanged(TWO, word, (0, BIG - 1, ("kt", -BIG), 1)), (
            ("x", BIG - 1), ("k", -1), ("t", -BIG), ("k", 1), ("t", BIG), ("x", 1), ("h0", 1)))

    def test_all_places_of_some_words(self):
        rows = (("xy", 2, -1), ("x", 0, -1), ("y", 1, 1), ("t", 1, 2), ("kt", -1), ("kh", 0))
        for word in some_words(("x", "y", "t", "k", "h0", "h1"), 40, 8):
            left = letters_freed(word)
            for at, row, sign in itertools.product(range(len(left) + 1), rows, (1, -1)):
                put = row_word(TWO, row) if sign == 1 else backward(row_word(TWO, row))
                self.same(exchanged(TWO, word, (at, 0, row, sign)), letters_freed(left[:at] + put + left[at:]))
                if at < len(left) and left[at][0] in ("x", "y", "t"):
                    letter, power = left[at]
                    for cut in [*range(1, power), *range(power + 1, 0)]:
                        wanted = left[:at] + ((letter, cut),) + put + ((letter, power - cut),) + left[at + 1:]
                        self.same(exchanged(TWO, word, (at, cut, row, sign)), letters_freed(wanted))

    def test_it_is_alike_by_the_row_moved(self):
        for word in some_words(("x", "y", "t", "k", "h0", "h1"), 60, 8):
            left = letters_freed(word)
            for at in range(len(left) + 1):
                part = product_word(TWO, ((left[:at], ("t", 1, -1), -1),))
                self.same(exchanged(TWO, word, (at, 0, ("t", 1, -1), -1)), letters_freed(part + word))


class BadExchanges(StrictCase):
    word = (("x", 3), ("h0", 1), ("y", -3), ("k", 1), ("t", 1))
    row = ("xy", 1, 1)

    def bad(self, *exchanges):
        for exchange in exchanges:
            with self.subTest(exchange):
                self.refused(BadExchange, exchange, exchanged, TWO, self.word, exchange)

    def test_no_tuple_of_four(self):
        self.bad(*any_values())
        self.bad([0, 0, self.row, 1], (0, 0, self.row), (0, 0, self.row, 1, 1), ((0, 0, self.row, 1),), (0, self.row, 1))

    def test_at(self):
        for at in (-1, 6, 7, 400, True, False, None, "0", (0,), [0], TWO, -6):
            self.bad((at, 0, self.row, 1))
        for at in range(6):
            self.assertTrue(exchanged(TWO, self.word, (at, 0, self.row, 1)))

    def test_at_goes_by_the_freed_word(self):
        word = self.word + (("k", -1), ("k", 1))
        self.same(len(exchanged(TWO, word, (5, 0, self.row, 1))), 9)
        self.refused(BadExchange, exchange := (6, 0, self.row, 1), exchanged, TWO, word, exchange)
        self.refused(BadExchange, exchange := (1, 0, self.row, 1), exchanged, TWO, (("x", 1), ("x", -1)), exchange)

    def test_cut_beyond_the_next_syllable(self):
        self.bad(*[(0, cut, self.row, 1) for cut in (3, 4, -1, -2, -3, 100)])
        self.bad(*[(2, cut, self.row, 1) for cut in (-3, -4, 1, 2, 3, -100)])
        self.bad(*[(4, cut, self.row, 1) for cut in (1, -1, 2)])
        for at, cut in ((0, 1), (0, 2), (2, -1), (2, -2)):
            self.assertTrue(exchanged(TWO, self.word, (at, cut, self.row, 1)))

    def test_cut_in_a_hand_or_k_or_at_the_end(self):
        self.bad(*[(at, cut, self.row, 1) for at in (1, 3, 5) for cut in (1, -1, 2)])

    def test_cut_that_is_no_integer(self):
        for cut in (False, True, None, "1", "", (), (1,), [1], {}, TWO, ("x", 1), ("x", 0), ("x", 2), ("y", 1), ("h0", 1)):
            self.bad((0, cut, self.row, 1), (1, cut, self.row, 1), (5, cut, self.row, 1))

    def test_row(self):
        for row in BAD_ROWS + any_values():
            self.bad((0, 0, row, 1), (0, 1, row, -1))

    def test_sign(self):
        for sign in (0, 2, -2, True, False, None, "1", (1,), [1], TWO):
            self.bad((0, 0, self.row, sign), (0, 1, self.row, sign))


class Wrong(StrictCase):
    def test_no_machine(self):
        for wrong in any_values():
            if not isinstance(wrong, Machine):
                self.refused(NoMachine, wrong, book, wrong)
                for row in (("xy", 1, 1), None):
                    self.refused(NoMachine, wrong, row_word, wrong, row)
                    self.refused(NoMachine, wrong, worth, wrong, row)
                self.refused(NoMachine, wrong, exchanged, wrong, (), (0, 0, ("xy", 1, 1), 1))
                self.refused(NoMachine, wrong, exchanged, wrong, [], None)

    def test_no_row(self):
        for wrong in BAD_ROWS + any_values():
            with self.subTest(value=wrong):
                self.refused(BadRow, wrong, row_word, TWO, wrong)
                self.refused(BadRow, wrong, worth, TWO, wrong)

    def test_rows_go_by_the_machine(self):
        for row in (("x", 3, 1), ("y", 3, 1), ("t", 3, 1), ("kh", 3)):
            self.assertTrue(row_word(THREE, row))
            self.refused(BadRow, row, row_word, TWO, row)

    def test_no_word(self):
        for wrong in [value for value in any_values() if value != ()] + BAD_WORDS:
            with self.subTest(value=wrong):
                self.refused(BadWord, wrong, exchanged, TWO, wrong, (0, 0, ("xy", 1, 1), 1))
                self.refused(BadWord, wrong, exchanged, TWO, wrong, None)

    def test_by_names(self):
        self.same(row_word(row=("kt", 1), machine=TWO), row_word(TWO, ("kt", 1)))
        self.same(worth(row=("kt", 1), machine=TWO), 1)
        self.same(book(machine=TWO), book(TWO))
        self.same(exchanged(exchange=(0, 0, ("kt", 1), 1), word=(), machine=TWO), row_word(TWO, ("kt", 1)))

    def test_nothing_is_changed(self):
        wrong = [0, 0, ["xy", 1, 1], 1]
        self.refused(BadExchange, wrong, exchanged, TWO, (), wrong)
        self.assertEqual(wrong, [0, 0, ["xy", 1, 1], 1])
        for first in (True, False):
            self.same(book(TWO), book(Machine(TWO.text)))
            self.same(exchanged(TWO, (), (0, 0, ("kh", 0), 1)), row_word(TWO, ("kh", 0)))


if __name__ == "__main__":
    unittest.main()
