"""Section 10: tower, tower_word, hands_of."""

import unittest

from emptywords.errors import BadTower, BadWord, HasK, NoMachine
from emptywords.ground import form, times
from emptywords.hands import alike, hands_of, passed, tower, tower_word
from emptywords.pairs import Machine
from emptywords.words import read_word
from tests.helping import SMALL, StrictCase, any_values, backward, letters_freed, some_words
from tests.test_ground import BAD_FORMS, whole_word
from tests.test_words import BAD_WORDS

TURN = Machine("figures 2\nrow 1 0 0 right\nrow 0 1 1 left")
THREE = Machine("figures 3\nrow 1 2 4 right\nrow 0 2 7 left\nrow 2 0 0 right\nrow 1 1 0 left")
NOTHING = ((), 0, 0)
T = ((((0, 0), 1),), 0, 0)
LETTERS = ("x", "y", "t", "h0", "h1")
BAD_STEPS = [
    ("h2", 1), ("h01", 1), ("h", 1), ("H0", 1), ("x", 1), ("t", 1), ("k", 1), ("h0", 0), ("h0", 2), ("h0", -2), ("h0", True),
    ("h0", None), ("h0", "1"), ("h0",), ("h0", 1, 1), ["h0", 1], "h0", "h0 1", (("h0", 1),), (0, 1), (["h0"], 1), (), NOTHING,
    None, 0, {}, TURN,
]


def by_the_document(machine, word):
    """The TOWER, made as section 10 tells it."""
    parts = [NOTHING]
    for letter, power in word:
        if letter in ("x", "y", "t"):
            parts[-1] = times(parts[-1], form(((letter, power),)))
            continue
        behind = None
        if len(parts) > 1 and parts[-2] == (letter, -power):
            behind = passed(machine, int(letter[1:]), parts[-1], power)
        if behind is None:
            parts += [(letter, power), NOTHING]
        else:
            parts[-3:] = [times(parts[-3], behind)]
    return tuple(parts)


class Made(StrictCase):
    def gives(self, text, *wanted):
        word = read_word(TURN, text)
        self.same(tower(TURN, word), wanted)
        self.same(by_the_document(TURN, word), wanted)

    def test_without_hands(self):
        self.gives("", NOTHING)
        self.gives("x 1 y 2 t 1 x -1", ((((-1, -2), 1),), 0, 2))
        self.gives("x 1 x -1", NOTHING)

    def test_hands_that_stay(self):
        self.gives("h0 1", NOTHING, ("h0", 1), NOTHING)
        self.gives("h0 -1", NOTHING, ("h0", -1), NOTHING)
        self.gives("x 2 h0 1 t 1 h1 -1 y 3", ((), 2, 0), ("h0", 1), T, ("h1", -1), ((), 0, 3))
        self.gives("h0 1 h0 1", NOTHING, ("h0", 1), NOTHING, ("h0", 1), NOTHING)
        self.gives("h0 1 h1 -1", NOTHING, ("h0", 1), NOTHING, ("h1", -1), NOTHING)

    def test_a_hand_beside_its_undoing(self):
        self.gives("h0 1 h0 -1", NOTHING)
        self.gives("h0 -1 h0 1", NOTHING)
        self.gives("x 1 h1 -1 h1 1 x 1", ((), 2, 0))
        self.gives("h0 1 h1 1 h1 -1 h0 -1 t 1", T)
        self.gives("h0 1 h0 -1 h0 1", NOTHING, ("h0", 1), NOTHING)

    def test_a_pinch_goes_out(self):
        self.gives("h0 -1 x 2 h0 1", ((), 4, 0))
        self.gives("h0 -1 y 2 h0 1", ((), 0, 1))
        self.gives("h1 -1 x 2 y -4 h1 1", ((), 1, -8))
        self.gives("h0 1 x 4 y 1 h0 -1", ((), 2, 2))
        self.gives("h1 1 x 1 y 4 h1 -1", ((), 2, 2))
        self.gives("h0 -1 x -1 t 1 x 1 h0 1", T)
        self.gives("h0 1 t 3 h0 -1", ((((1, 0), 3),), 0, 0))
        self.gives("h1 -1 y -1 t 1 y 1 h1 1", ((((0, 1), 1),), 0, 0))

    def test_what_is_passed_is_put_behind_the_form_ahead(self):
        self.gives("x 5 h0 -1 x -1 t 1 x 3 h0 1 x 1", ((((-5, 0), 1),), 10, 0))
        self.gives("t -1 h0 -1 x -1 t 1 x 1 h0 1", NOTHING)
        self.gives("t 2 h0 -1 x -1 t 1 x 1 h0 1 t 3", ((((0, 0), 6),), 0, 0))
        self.gives("t 1 x 4 h0 -1 x -3 t 1 x 1 h0 1", ((((0, 0), 2),), 0, 0))

    def test_a_pinch_that_lacks_its_rest_stays(self):
        self.gives("h0 -1 x 1 h0 1", NOTHING, ("h0", -1), ((), 1, 0), ("h0", 1), NOTHING)
        self.gives("h0 -1 t 1 h0 1", NOTHING, ("h0", -1), T, ("h0", 1), NOTHING)
        self.gives("h0 1 x 2 h0 -1", NOTHING, ("h0", 1), ((), 2, 0), ("h0", -1), NOTHING)
        self.gives("h1 1 y 2 h1 -1", NOTHING, ("h1", 1), ((), 0, 2), ("h1", -1), NOTHING)
        self.gives("h0 -1 x 1 h0 1 x 1 h0 -1", NOTHING, ("h0", -1), ((), 1, 0), ("h0", 1), ((), 1, 0), ("h0", -1), NOTHING)

    def test_a_pinch_that_goes_out_leaves_another_one_to_go_out(self):
        self.gives("h1 -1 x 2 h0 -1 x -1 h1 -1 x 2 h1 1 h0 1 h1 1", ((), 1, 0))
        self.gives("h0 -1 x -1 h1 -1 y -1 t 1 y 1 h1 1 x 1 h0 1",
                   NOTHING, ("h0", -1), ((((1, 1), 1),), 0, 0), ("h0", 1), NOTHING)
        self.gives("h0 1 h0 -1 x 1 h1 -1 x 2 h1 1 h0 1", ((), 2, 0), ("h0", 1), NOTHING)
        self.gives("h0 1 h1 -1 x 2 h1 1 x 3 h0 -1", ((), 2, 0))

    def test_as_they_come_to_stand(self):
        # Between h0 and its undoing nothing stands, so these go out; then x 2 stands between the others.
        self.gives("h0 -1 x 1 h0 1 h0 -1 x 1 h0 1", ((), 4, 0))
        self.gives("h0 -1 x 1 h0 1 t 1 t -1 h0 -1 x 1 h0 1", ((), 4, 0))
        self.gives("h0 -1 x 1 h0 1 y 1 h0 -1 x 1 h0 1", ((), 4, 1))
        self.gives("h0 -1 x 1 h0 1 x 1 h0 -1 x 1 h0 1",
                   NOTHING, ("h0", -1), ((), 1, 0), ("h0", 1), ((), 1, 0), ("h0", -1), ((), 1, 0), ("h0", 1), NOTHING)

    def test_five_pinches_within_one_another(self):
        self.gives("h0 -1 h0 -1 h0 -1 h0 -1 h0 -1 x 2 y 32 h0 1 h0 1 h0 1 h0 1 h0 1", ((), 64, 1))
        self.gives("h1 -1 h1 -1 h1 -1 h1 -1 h1 -1 y -1 t 2 y 1 h1 1 h1 1 h1 1 h1 1 h1 1", ((((0, 1), 2),), 0, 0))
        self.gives("h0 1 y -3 h1 -1 y -2 h0 -1 x -1 y 3 h1 1 x -2 h0 -1 x 1 y -2 t 1 x 2 t -2 y -2 x -1 h0 1 y 2 h1 -1 y -1"
                   " x -3 h0 1 y -3 x -4 h1 1 y -1 x 2 h0 -1", ((((-1, 8), 1), ((-5, 8), -2)), 0, -24))

    def test_as_it_is_handed_in_or_freed(self):
        word = read_word(TURN, "h0 -1 h0 1 h0 -1 x 1 x 1 h0 1")
        self.same(tower(TURN, word), (((), 4, 0),))
        self.same(tower(TURN, letters_freed(word)), (((), 4, 0),))
        # Once x 2 was passed it stands ahead of h0, which stays; freed, nothing is ever passed.
        word = read_word(TURN, "h0 1 h1 -1 x 2 h1 1 h1 -1 x -2 h1 1 h0 1")
        self.same(tower(TURN, word), by_the_document(TURN, word))
        other = read_word(TURN, "h0 -1 x 2 h0 1 h0 -1 y 1 h0 -1")
        self.same(tower(TURN, other), (((), 4, 0), ("h0", -1), ((), 0, 1), ("h0", -1), NOTHING))
        self.same(tower(TURN, letters_freed(other)), (NOTHING, ("h0", -1), ((), 2, 1), ("h0", -1), NOTHING))

    def test_great_numbers(self):
        power = 10 ** 4000
        self.same(tower(TURN, (("h0", -1), ("x", power), ("h0", 1))), (((), 2 * power, 0),))
        self.same(tower(TURN, (("h1", -1),) * 300 + (("y", 1 << 300),) + (("h1", 1),) * 300), (((), 0, 1 << 600),))

    def test_many_words(self):
        for machine, letters in ((TURN, LETTERS), (TURN, ("x", "t", "h1")), (THREE, LETTERS + ("h2", "h3"))):
            for word in some_words(letters, 300, 14) + some_words(letters, 30, 60, 4):
                word = word + backward(word)[1:]
                self.same(tower(machine, word), by_the_document(machine, word))

    def test_no_step_of_it_can_go_out(self):
        for word in some_words(LETTERS, 200, 20):
            told = tower(TURN, word)
            self.same(tower(TURN, tower_word(TURN, told)), tower(TURN, letters_freed(tower_word(TURN, told))))
            self.same(alike(TURN, word, tower_word(TURN, told)), True)
            self.same(hands_of(TURN, tower(TURN, letters_freed(word))), hands_of(TURN, told))


class WordOfTower(StrictCase):
    def test_its_word_is_freed(self):
        for told, text in (
            ((NOTHING,), ""),
            ((((), 1, 2), ("h0", 1), ((), 3, 4)), "x 1 y 2 h0 1 x 3 y 4"),
            ((NOTHING, ("h0", 1), NOTHING, ("h0", 1), NOTHING), "h0 1 h0 1"),
            ((((((1, 2), 3),), 0, -2), ("h1", -1), ((((0, 0), 1),), 0, 0)), "y -2 x -1 t 3 x 1 h1 -1 t 1"),
            ((((((0, 1), 1),), 0, 0), ("h1", -1), ((((2, 0), 1),), -2, 1)), "y -1 t 1 y 1 h1 -1 x -2 t 1 y 1"),
        ):
            self.same(tower_word(TURN, told), read_word(TURN, text))

    def test_of_many_towers(self):
        for word in some_words(LETTERS, 100, 16):
            told = tower(TURN, word)
            whole = ()
            for at, part in enumerate(told):
                whole += (part,) if at % 2 else whole_word(part)
            self.same(tower_word(TURN, told), letters_freed(whole))
            self.same(hands_of(TURN, told), tuple(part for at, part in enumerate(told) if at % 2))

    def test_hands(self):
        self.same(hands_of(TURN, (NOTHING,)), ())
        self.same(hands_of(TURN, (((), 1, 2), ("h0", 1), T, ("h1", -1), NOTHING)), (("h0", 1), ("h1", -1)))


class Wrong(StrictCase):
    def bad(self, value, machine=TURN):
        with self.subTest(value=value):
            self.refused(BadTower, value, tower_word, machine, value)
            self.refused(BadTower, value, hands_of, machine, value)
            self.refused(BadTower, value, hands_of, tower=value, machine=machine)

    def good(self, value):
        self.same(hands_of(TURN, value), value[1::2])
        self.same(tower_word(TURN, value), letters_freed(tower_word(TURN, value)))

    def test_no_tower(self):
        for wrong in any_values():
            self.bad(wrong)
        for wrong in ([NOTHING], NOTHING, (NOTHING, ("h0", 1)), (("h0", 1), NOTHING), (("h0", 1),), (), (NOTHING, NOTHING),
                      (NOTHING, NOTHING, NOTHING), (NOTHING, ("h0", 1), ("h1", 1)), {0: NOTHING}, "x 1",
                      [NOTHING, ("h0", 1), NOTHING], (NOTHING, ("h0", 1), NOTHING, ("h0", 1)),
                      (("h0", 1), NOTHING, ("h1", 1))):
            self.bad(wrong)

    def test_a_form_that_is_none(self):
        for wrong in BAD_FORMS:
            self.bad((wrong,))
            self.bad((wrong, ("h0", 1), NOTHING))
            self.bad((NOTHING, ("h0", 1), wrong))
            self.bad((NOTHING, ("h0", 1), wrong, ("h0", -1), NOTHING))

    def test_a_step_that_is_none(self):
        for wrong in BAD_STEPS:
            self.bad((NOTHING, wrong, NOTHING))
            self.bad((NOTHING, ("h0", 1), T, wrong, NOTHING))
            self.bad((NOTHING, wrong, T, ("h0", 1), NOTHING))

    def test_a_hand_that_the_machine_has_not(self):
        self.good((NOTHING, ("h1", 1), NOTHING))
        self.bad((NOTHING, ("h2", 1), NOTHING))
        self.same(hands_of(THREE, (NOTHING, ("h3", -1), NOTHING)), (("h3", -1),))
        self.bad((NOTHING, ("h4", -1), NOTHING), THREE)
        self.bad((NOTHING, ("h1", 1), NOTHING), Machine("figures 2\nrow 1 0 0 right"))

    def test_a_pinch(self):
        for between in (NOTHING, ((), 4, 1), T, ((((4, 3), 1),), -4, 5)):
            self.bad((NOTHING, ("h0", 1), between, ("h0", -1), NOTHING))
            self.bad((T, ("h1", 1), T, ("h0", 1), between, ("h0", -1), NOTHING))
            self.bad((NOTHING, ("h0", 1), between, ("h0", -1), T, ("h1", 1), NOTHING))
        for between in (NOTHING, ((), 2, 2), ((((1, 0), 1),), 2, 4)):
            self.bad((NOTHING, ("h0", -1), between, ("h0", 1), NOTHING))
        for between in (NOTHING, ((), 1, 4), ((((5, 1), 1),), 0, 0)):
            self.bad((NOTHING, ("h1", 1), between, ("h1", -1), NOTHING))

    def test_the_same_where_the_form_is_not_passed(self):
        for between in (((), 2, 1), ((((1, 0), 1),), 0, 0), ((((4, 3), 1), ((2, 0), 1)), 0, 0)):
            self.good((NOTHING, ("h0", 1), between, ("h0", -1), NOTHING))
        for between in (((), 2, 1), ((), 1, 2), T, ((((1, 1), 1),), 0, 0)):
            self.good((NOTHING, ("h0", -1), between, ("h0", 1), NOTHING))
        # Both ways differ: by the one it is passed, by the other it is not.
        self.good((NOTHING, ("h1", 1), ((), 2, 2), ("h1", -1), NOTHING))
        self.bad((NOTHING, ("h1", -1), ((), 2, 2), ("h1", 1), NOTHING))
        self.good((NOTHING, ("h0", 1), NOTHING, ("h0", 1), NOTHING))
        self.good((NOTHING, ("h0", 1), NOTHING, ("h1", -1), NOTHING))
        self.good((NOTHING, ("h0", -1), T, ("h1", 1), NOTHING, ("h0", 1), NOTHING))

    def test_no_machine(self):
        for wrong in any_values():
            if not isinstance(wrong, Machine):
                for value in ((NOTHING,), None):
                    self.refused(NoMachine, wrong, tower_word, wrong, value)
                    self.refused(NoMachine, wrong, hands_of, wrong, value)
                for word in ((), None, (("k", 1),)):
                    self.refused(NoMachine, wrong, tower, wrong, word)

    def test_no_word(self):
        for wrong in [value for value in any_values() if value != ()] + BAD_WORDS:
            self.refused(BadWord, wrong, tower, TURN, wrong)
        self.refused(BadWord, wrong := (("k", 1), ("h2", 1)), tower, TURN, wrong)

    def test_the_first_k_as_it_is_handed_in(self):
        for number, text in ((0, "k 1"), (0, "k 1 k -1"), (2, "x 1 x -1 k 1"), (3, "h0 1 h0 -1 t 1 k -1 k 1 k 1")):
            self.refused_number(HasK, number, tower, TURN, read_word(TURN, text))

    def test_by_names(self):
        self.same(tower(word=(("x", 1),), machine=TURN), (((), 1, 0),))
        self.same(tower_word(tower=(((), 1, 0),), machine=TURN), (("x", 1),))

    def test_nothing_is_changed(self):
        small, wrong = Machine(SMALL), [[[], 0, 0]]
        self.refused(BadTower, wrong, tower_word, small, wrong)
        tower(small, (("h0", 1), ("h0", -1)))
        self.assertEqual(wrong, [[[], 0, 0]])
        self.same((small.text, small.figures, small.rows), (SMALL, 2, Machine(SMALL).rows))


if __name__ == "__main__":
    unittest.main()
