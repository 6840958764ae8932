"""Section 7: freed, undone, moved, word_text, read_word."""

import itertools
import unittest

from emptywords.errors import BadPair, BadPower, BadText, BadWord, NoMachine
from emptywords.pairs import Machine
from emptywords.strips import Strip
from emptywords.words import freed, moved, read_word, undone, word_text
from tests.helping import WIPE, StrictCase, any_values, backward, letters_freed, nested, some_words

TWO = Machine("figures 2\nrow 1 0 0 left\nrow 0 1 1 right")
EIGHTY = Machine("figures 9\n" + "\n".join(f"row {at // 9} {at % 9} {at} left" for at in range(80, 0, -1)))
LETTERS = ("x", "y", "t", "k", "h0", "h1")
BIG = 10 ** 4000 + 7
BAD_WORDS = [
    [], [("x", 1)], (("x", 1), ["y", 1]), ("x", 1), (("x",),), (("x", 1, 1),), ("x1",), ("x 1",), "x 1", {"x": 1},
    (("x", 0),), (("y", 0),), (("t", 0),), (("k", 0),), (("h0", 0),), (("x", True),), (("k", True),), (("h0", True),),
    (("x", False),), (("x", "1"),), (("x", None),), (("x", (1,)),), (("x", [1]),), (("k", 2),), (("k", -2),),
    (("h0", 2),), (("h1", -2),), (("h0", 10 ** 40),), (("z", 1),), (("X", 1),), (("", 1),), (("xy", 1),), (("h", 1),),
    (("h2", 1),), (("h01", 1),), (("h00", 1),), (("h-1", 1),), (("h+1", 1),), (("h1 ", 1),), ((" h1", 1),),
    (("h 1", 1),), (("H0", 1),), (("k0", 1),), ((0, 1),), ((None, 1),), ((("x",), 1),), ((["x"], 1),), (({}, 1),),
    ((TWO, 1),), (("x", TWO),), (("x", 1), ("x", 1), None), (("x", 1), ()), ((),), (None,), ((1, "x"),),
    (("x", 1), ("y", 1), ("t", 0)), (("x", nested(50, lambda value: (value,))),),
]


class Freed(StrictCase):
    def gives(self, word, wanted):
        self.same(freed(TWO, word), wanted)

    def test_nothing_to_do(self):
        for word in ((), (("x", 1),), (("x", 1), ("y", 1), ("x", -1), ("y", -1)), (("h0", 1), ("h1", -1), ("h0", -1)),
                     (("k", 1), ("x", 5), ("k", -1)), (("t", -3), ("h0", 1), ("t", 3))):
            self.gives(word, word)

    def test_neighbours_of_one_letter_are_made_one(self):
        self.gives((("x", 2), ("x", 3)), (("x", 5),))
        self.gives((("y", -2), ("y", 3), ("y", -4)), (("y", -3),))
        self.gives((("t", 1), ("t", 1), ("x", 1), ("t", 1)), (("t", 2), ("x", 1), ("t", 1)))

    def test_powers_that_come_to_0(self):
        self.gives((("x", 2), ("x", -2)), ())
        self.gives((("y", 1), ("y", 1), ("y", -2)), ())
        self.gives((("t", 5), ("x", 1), ("x", 2), ("x", -3), ("t", -4)), (("t", 1),))

    def test_one_behind_another(self):
        self.gives((("x", 1), ("y", 1), ("t", 1), ("t", -1), ("y", -1), ("x", -1)), ())
        self.gives((("x", 2), ("y", 1), ("y", -1), ("x", 3)), (("x", 5),))
        self.gives((("h0", 1), ("k", 1), ("x", 1), ("h1", -1), ("h1", 1), ("x", -1), ("k", -1), ("h0", -1)), ())
        self.gives((("x", 1), ("k", -1), ("k", 1), ("x", -1), ("t", 2)), (("t", 2),))

    def test_hands_and_k_beside_their_undoing(self):
        for letter in ("h0", "h1", "k"):
            for power in (1, -1):
                self.gives(((letter, power), (letter, -power)), ())
                self.gives(((letter, power), (letter, -power), (letter, power)), ((letter, power),))

    def test_hands_and_k_beside_themselves(self):
        for letter in ("h0", "h1", "k"):
            for power in (1, -1):
                self.gives(((letter, power),) * 2, ((letter, power),) * 2)
                self.gives(((letter, power),) * 3 + ((letter, -power),) * 2, ((letter, power),))

    def test_other_letters_do_not_go_out(self):
        for one, other in itertools.permutations(LETTERS, 2):
            word = ((one, 1), (other, -1))
            self.gives(word, word)

    def test_powers_of_many_figures(self):
        self.gives((("x", BIG), ("x", -BIG + 1)), (("x", 1),))
        self.gives((("t", -BIG), ("y", BIG), ("y", -BIG), ("t", -BIG)), (("t", -2 * BIG),))

    def test_behind_it_its_undone_word_leaves_nothing(self):
        for word in some_words(LETTERS, 300) + [(("x", BIG), ("y", -BIG), ("k", 1), ("k", 1))]:
            self.gives(word + undone(TWO, word), ())
            self.gives(undone(TWO, word) + word, ())

    def test_whichever_comes_first(self):
        for word in some_words(LETTERS, 400, 24) + some_words(("x", "h0"), 300, 16) + some_words(("k", "t"), 300, 16, 2):
            self.gives(word, letters_freed(word))
            self.gives(freed(TWO, word), freed(TWO, word))

    def test_400_syllables(self):
        half = tuple((LETTERS[at % 6], 1) for at in range(200))
        self.gives(half + backward(half), ())
        self.gives(half + half, half + half)

    def test_all_hands_of_the_machine(self):
        for number in (0, 7, 10, 79):
            word = ((f"h{number}", 1), (f"h{number}", 1))
            self.same(freed(EIGHTY, word), word)
        self.refused(BadWord, word := (("h80", 1),), freed, EIGHTY, word)


class Undone(StrictCase):
    def test_backward_with_powers_turned(self):
        self.same(undone(TWO, ()), ())
        self.same(undone(TWO, (("x", 3),)), (("x", -3),))
        self.same(undone(TWO, (("x", 1), ("k", -1), ("h1", 1), ("t", -BIG))), (("t", BIG), ("h1", -1), ("k", 1), ("x", -1)))

    def test_it_is_not_freed(self):
        self.same(undone(TWO, (("x", 1), ("x", -2), ("k", 1), ("k", -1))), (("k", 1), ("k", -1), ("x", 2), ("x", -1)))

    def test_twice(self):
        for word in some_words(LETTERS, 100):
            self.same(undone(TWO, word), backward(word))
            self.same(undone(TWO, undone(TWO, word)), word)


class Moved(StrictCase):
    def test_all_its_syllables(self):
        self.same(moved((2, 3), 1), (("y", -3), ("x", -2), ("t", 1), ("x", 2), ("y", 3)))
        self.same(moved((-2, -3), -5), (("y", 3), ("x", 2), ("t", -5), ("x", -2), ("y", -3)))

    def test_0_for_r_for_s_for_both(self):
        self.same(moved((0, 4), 2), (("y", -4), ("t", 2), ("y", 4)))
        self.same(moved((4, 0), -2), (("x", -4), ("t", -2), ("x", 4)))
        self.same(moved((0, 0), 7), (("t", 7),))

    def test_many_figures(self):
        self.same(moved((BIG, -BIG), BIG), (("y", BIG), ("x", -BIG), ("t", BIG), ("x", BIG), ("y", -BIG)))

    def test_wrong(self):
        pairs = any_values() + [[1, 2], (1,), (1, True), ("1", 2), (1, None)]
        for wrong in pairs:
            for power in (1, 0, None):
                self.refused(BadPair, wrong, moved, wrong, power)
        for wrong in [value for value in any_values() if value is True or type(value) is not int] + [0, False, "1", (1,)]:
            self.refused(BadPower, wrong, moved, (1, 2), wrong)

    def test_by_names(self):
        self.same(moved(power=2, pair=(0, 1)), (("y", -1), ("t", 2), ("y", 1)))


class Texts(StrictCase):
    def test_there_and_back(self):
        for word, text in (
            ((), ""), ((("x", 1),), "x 1"), ((("x", -12), ("y", 1), ("t", 2)), "x -12 y 1 t 2"),
            ((("k", -1), ("h0", 1), ("h1", -1), ("k", 1)), "k -1 h0 1 h1 -1 k 1"),
            ((("x", 1), ("x", -1)), "x 1 x -1"), ((("t", 100),), "t 100"), ((("y", -10),), "y -10"),
        ):
            self.same(word_text(TWO, word), text)
            self.same(read_word(TWO, text), word)

    def test_some_words_there_and_back(self):
        for word in some_words(LETTERS, 200, 12, 1000):
            text = " ".join(f"{letter} {power}" for letter, power in word)
            self.same(word_text(TWO, word), text)
            self.same(read_word(TWO, text), word)

    def test_many_figures(self):
        for power in (BIG, -BIG, 10 ** 59, 10 ** 60 - 1, 10 ** 60, -(10 ** 60), 10 ** 60 + 1, 10 ** 120, 7 * 10 ** 180 + 3):
            self.same(word_text(TWO, (("t", power),)), f"t {power}")
            self.same(read_word(TWO, f"t {power}"), (("t", power),))

    def test_more_figures_than_python_itself_takes(self):
        text = "x 1" + "0" * 4400 + " y -" + "9" * 4400
        word = read_word(TWO, text)
        self.assertTrue(word == (("x", 10 ** 4400), ("y", -(10 ** 4400) + 1)))
        self.assertTrue(word_text(TWO, word) == text)

    def test_all_hands_of_the_machine(self):
        text = " ".join(f"h{number} 1" for number in range(80))
        self.same(read_word(EIGHTY, text), tuple((f"h{number}", 1) for number in range(80)))
        self.same(word_text(EIGHTY, read_word(EIGHTY, text)), text)
        self.refused_number(BadText, 161, read_word, EIGHTY, text + " h80 1")

    def bad(self, number, *texts):
        for text in texts:
            with self.subTest(text):
                self.refused_number(BadText, number, read_word, TWO, text)

    def test_no_string(self):
        for value in any_values():
            if not isinstance(value, str):
                self.refused_number(BadText, 0, read_word, TWO, value)

    def test_blanks(self):
        self.bad(1, " ", " x 1", "  ", " x")
        self.bad(2, "x ", "x  1", "x  ")
        self.bad(3, "x 1 ", "x 1  y 1", "x 1  ")
        self.bad(4, "x 1 y ", "x 1 y  1")
        self.bad(1, "x\n1", "\n", "x\t1")
        self.bad(2, "x 1\ny 1", "x 1\n")

    def test_letters(self):
        self.bad(1, "z 1", "X 1", "1 x", "h 1", "h2 1", "h00 1", "h01 1", "h-1 1", "h+1 1", "H0 1", "xy 1", "x1", "1", "k1 1")
        self.bad(3, "x 1 z 1", "x 1 1", "x 1 1 x", "x 1 h2 1", "x 1 h01 1", "k 1 -1", "h0 1 h 1")
        self.bad(5, "x 1 y 1 z", "x 1 y 1 z 0")

    def test_powers(self):
        for letter in LETTERS:
            self.bad(2, *[f"{letter} {word}" for word in (
                "0", "-0", "+1", "01", "-01", "00", "1.0", "1e3", "one", "-", "--1", "1-", "1_0", "x", "", "0x1", "+", "-+1")])
            self.bad(4, *[f"x 1 {letter} {word}" for word in ("0", "+1", "01", "-0", "k")])
        for letter in ("k", "h0", "h1"):
            self.bad(2, *[f"{letter} {word}" for word in ("2", "-2", "10", "11", "-11", "100")])

    def test_an_end_behind_a_letter(self):
        self.bad(2, "x", "k", "h1")
        self.bad(4, "x 1 y", "k -1 t", "x 1 h0")
        self.bad(6, "x 1 y 1 t")

    def test_the_first_that_cannot_stand(self):
        self.bad(1, "z 0 x", "z", "h2")
        self.bad(2, "x 0 z 0", "x 01 x", "k 2 z 1")
        self.bad(3, "x 1 z 0 x", "x 1 z")
        self.bad(1, "none", "done", "begin x 1")


class Wrong(StrictCase):
    def test_no_machine(self):
        for wrong in any_values():
            if not isinstance(wrong, Machine):
                for word in ((), [], None):
                    for call in (freed, undone, word_text):
                        self.refused(NoMachine, wrong, call, wrong, word)
                for text in ("", None, "z"):
                    self.refused(NoMachine, wrong, read_word, wrong, text)

    def test_no_word(self):
        for wrong in [value for value in any_values() if value != ()] + BAD_WORDS:
            for call in (freed, undone, word_text):
                with self.subTest(call=call.__name__, value=wrong):
                    self.refused(BadWord, wrong, call, TWO, wrong)

    def test_words_go_by_the_machine(self):
        one = Machine("figures 2\nrow 1 0 0 left")
        self.refused(BadWord, word := (("h1", 1),), freed, one, word)
        self.same(freed(TWO, word), word)

    def test_by_names(self):
        word = (("x", 1), ("x", 1))
        self.same(freed(word=word, machine=TWO), (("x", 2),))
        self.same(undone(word=word, machine=TWO), (("x", -1), ("x", -1)))
        self.same(word_text(word=word, machine=TWO), "x 1 x 1")
        self.same(read_word(text="x 1", machine=TWO), (("x", 1),))

    def test_nothing_is_changed(self):
        wrong = [["x", 1], ("x", Strip(WIPE))]
        kept = list(wrong)
        for call in (freed, undone, word_text):
            self.refused(BadWord, wrong, call, TWO, wrong)
        self.assertEqual(wrong, kept)
        self.assertEqual((TWO.text, TWO.figures, len(TWO.rows)), ("figures 2\nrow 1 0 0 left\nrow 0 1 1 right", 2, 2))


if __name__ == "__main__":
    unittest.main()
