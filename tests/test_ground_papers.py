"""Section 8: ground_paper, shows_ground_paper."""

import unittest

from emptywords.books import is_product, product_word
from emptywords.ground import form, form_word, ground_paper, shows_ground_paper
from emptywords.pairs import Machine
from tests.helping import SMALL, StrictCase, any_values, backward, letters_freed, some_words

GROUND = ("x", "y", "t")
BIG = 10 ** 4000 + 7
WORDS = some_words(GROUND, 120) + some_words(GROUND, 30, 24, 2) + some_words(("x", "y"), 60, 10, 4)


def told_by(paper):
    """The paper's word, freed letter by letter."""
    word = ()
    for mover, (_, p, q), sign in paper:
        row = (("x", p), ("y", q), ("x", -p), ("y", -q))
        word += mover + (row if sign == 1 else backward(row)) + backward(mover)
    return letters_freed(word)


def wanted(word):
    return letters_freed(word + backward(form_word(form(word))))


class GroundPaper(StrictCase):
    def rows_alone(self, paper):
        self.assertIs(type(paper), tuple)
        for part in paper:
            self.assertEqual([type(one) for one in part], [tuple, tuple, int])
            mover, row, sign = part
            self.assertTrue(all(letter in GROUND and type(power) is int and power for letter, power in mover))
            self.assertEqual((len(row), row[0]), (3, "xy"))
            self.assertTrue(all(type(number) is int and number for number in row[1:]))
            self.assertIn(sign, (1, -1))

    def test_nothing_to_exchange(self):
        for word in ((), (("x", 1),), (("y", -4),), (("t", 2),), (("x", 1), ("y", 1)), (("x", 2), ("x", 3)),
                     (("t", 1), ("x", 5), ("y", -5)), (("x", 3), ("t", 1), ("x", -3)), (("x", 1), ("x", -1)),
                     (("y", -2), ("x", -1), ("t", 3), ("x", 1), ("y", 2))):
            paper = ground_paper(word)
            self.rows_alone(paper)
            self.same(told_by(paper), ())
            self.same(wanted(word), ())
            self.same(shows_ground_paper(word, paper), True)
            self.same(shows_ground_paper(word, ()), True)

    def test_some_exchanges(self):
        for word in (
            (("y", 1), ("x", 2)), (("y", -3), ("x", 2)), (("x", 1), ("y", 1), ("t", 1)), (("x", -1), ("y", 2), ("t", -5)),
            (("x", 1), ("y", 2), ("x", -1), ("t", 1), ("y", -2)),
        ):
            paper = ground_paper(word)
            self.rows_alone(paper)
            self.assertNotEqual(wanted(word), ())
            self.same(told_by(paper), wanted(word))
            self.same(shows_ground_paper(word, paper), True)

    def test_some_words(self):
        machine = Machine(SMALL)
        for word in WORDS:
            paper = ground_paper(word)
            self.rows_alone(paper)
            self.same(told_by(paper), wanted(word))
            self.same(shows_ground_paper(word, paper), True)
            self.same(is_product(machine, word + backward(form_word(form(word))), paper), True)

    def test_great_powers(self):
        machine = Machine(SMALL)
        word = (("y", BIG), ("x", -BIG), ("t", BIG), ("y", 1), ("x", BIG), ("t", -2), ("x", 3))
        paper = ground_paper(word)
        self.same(shows_ground_paper(word, paper), True)
        self.same(is_product(machine, word + backward(form_word(form(word))), paper), True)
        self.assertFalse(any(power == 0 for _, power in product_word(machine, paper)))

    def test_400_syllables(self):
        word = tuple((GROUND[at * at % 7 % 3], at % 5 - 2 or 1) for at in range(400))
        paper = ground_paper(word)
        self.same(shows_ground_paper(word, paper), True)
        self.same(shows_ground_paper(word, paper + paper[-1:]), False)


class ShowsGroundPaper(StrictCase):
    word = (("y", 1), ("x", 2))
    part = ((), ("xy", 2, 1), -1)

    def shows(self, value, told):
        with self.subTest(value=value):
            self.same(shows_ground_paper(self.word, value), told)

    def test_any_such_product(self):
        for value in (
            (self.part,),
            (((), ("xy", 1, 1), -1), ((("x", 1),), ("xy", 1, 1), -1)),
            (((("y", 1), ("y", -1)), ("xy", 2, 1), -1),),
            (self.part, ((("t", 5), ("x", 1)), ("xy", 3, -2), 1), ((("t", 5), ("x", 1)), ("xy", 3, -2), -1)),
            (((("y", 1),), ("xy", 2, -1), 1),),
            (((("x", 2),), ("xy", -2, 1), 1),),
        ):
            self.shows(value, told_by(value) == wanted(self.word))
            self.assertEqual(told_by(value), wanted(self.word))

    def test_no_product(self):
        for value in any_values() + [
            [self.part], [], (list(self.part),), self.part, (self.part[:2],), (self.part + (1,),),
            (([], ("xy", 2, 1), -1),), (((), ["xy", 2, 1], -1),), ((None, ("xy", 2, 1), -1),), (((), None, -1),),
        ]:
            self.shows(value, False)

    def test_other_rows(self):
        for row in (
            ("xy", 2), ("xy", 2, 1, 1), ("xy", 2, True), ("xy", 2, 0), ("xy", 0, 1), ("xy", "2", 1), ("yx", 2, 1), ("XY", 2, 1),
            ("x", 0, 1), ("t", 0, 1), ("kt", 1), ("kh", 0), (), ("xy",), ("xy", 2, 2), ("xy", 1, 2), ("xy", -2, 1), (True, 2, 1),
        ):
            self.shows((((), row, -1),), False)
            self.shows((self.part, ((), row, -1), ((), row, 1)), row[1:] in ((2, 2), (1, 2), (-2, 1)) and row[0] == "xy")

    def test_movers_that_are_none(self):
        for mover in (
            (("h0", 1),), (("k", -1),), (("x", 1), ("h0", 1), ("x", -1)), (("x", 0),), (("x", True),), [("x", 1)], (["x", 1],),
            ("x", 1), "x 1", (("z", 1),), (("k", 1), ("k", -1)), (("h0", 1), ("h0", -1)), None, 0, {},
        ):
            self.shows(((mover, ("xy", 2, 1), -1),), False)
            self.shows((self.part, (mover, ("xy", 1, 1), -1), (mover, ("xy", 1, 1), 1)), False)

    def test_another_sign_or_none(self):
        for sign in (1, 0, 2, -2, True, False, None, "-1", (-1,)):
            self.shows((((), ("xy", 2, 1), sign),), False)

    def test_another_word(self):
        self.shows((), False)
        self.shows((self.part, self.part), False)
        self.shows((((("t", 1),), ("xy", 2, 1), -1),), False)
        self.same(shows_ground_paper((("y", 2), ("x", 2)), (self.part,)), False)

    def test_true_is_not_1(self):
        self.same(shows_ground_paper((("y", 1), ("x", 1)), (((), ("xy", 1, 1), -1),)), True)
        for value in ((((), ("xy", True, 1), -1),), (((), ("xy", 1, True), -1),)):
            self.same(shows_ground_paper((("y", 1), ("x", 1)), value), False)

    def test_results_of_other_words(self):
        for one, other in zip(WORDS, WORDS[1:]):
            self.same(shows_ground_paper(one, ground_paper(other)), wanted(one) == wanted(other))


if __name__ == "__main__":
    unittest.main()
