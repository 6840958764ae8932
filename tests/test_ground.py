"""Section 8: form, form_word, times, form_undone, moved_form, ground_alike."""

import itertools
import unittest

from emptywords.errors import BadForm, BadPair, BadWord, HasHands
from emptywords.ground import form, form_undone, form_word, ground_alike, ground_paper, moved_form
from emptywords.ground import shows_ground_paper, times
from emptywords.pairs import Machine
from tests.helping import SMALL, StrictCase, any_values, backward, letters_freed, some_words

GROUND = ("x", "y", "t")
NOTHING = ((), 0, 0)
BIG = 10 ** 4000 + 7
WORDS = some_words(GROUND, 150) + some_words(GROUND, 40, 30, 2) + [(), (("x", 1),), (("y", -2),), (("t", 3),)]
BAD_WORDS = [
    [], [("x", 1)], (("x", 1), ["y", 1]), ("x", 1), (("x",),), (("x", 1, 1),), "x 1", {"x": 1}, ((),), (None,),
    (("x", 0),), (("t", 0),), (("h0", 0),), (("k", 0),), (("x", True),), (("h0", True),), (("k", True),),
    (("x", "1"),), (("x", None),), (("k", 2),), (("h0", 2),), (("h7", -2),), (("z", 1),), (("h", 1),), (("X", 1),),
    (("h01", 1),), (("h00", 1),), (("h-1", 1),), (("h+1", 1),), (("h1 ", 1),), (("h1_0", 1),), (("h1x", 1),), (("z1", 1),), (("1", 1),),
    (("11", 1),), (("k0", 1),), (("x0", 1),), (("hh1", 1),),
    (("", 1),), ((1, "x"),), ((None, 1),), ((["x"], 1),), (("k", 1), ("h0", 1), ("x", 0)), (("h0", 1), ("z", 1)),
    ((Machine(SMALL), 1),), (("x", Machine(SMALL)),),
]
BAD_FORMS = [
    [], [(), 0, 0], ((), 0), ((), 0, 0, 0), ([], 0, 0), ((), True, 0), ((), 0, False), ((), None, 0), ((), 0, "0"),
    ((), (), 0), (None, 0, 0), (0, 0, 0), ("", 0, 0), ({}, 0, 0), ((((0, 0), 0),), 0, 0), ((((0, 0), True),), 0, 0),
    ((((0, 0), None),), 0, 0), ((((0, 0),),), 0, 0), ((((0, 0), 1, 1),), 0, 0), (([(0, 0), 1],), 0, 0),
    ((([0, 0], 1),), 0, 0), ((((0,), 1),), 0, 0), ((((0, 0, 0), 1),), 0, 0), ((((True, 0), 1),), 0, 0),
    ((((0, "0"), 1),), 0, 0), (((0, 1),), 0, 0), (((0, 0), 1), 0, 0), ((((0, 0), 1), ((0, 0), 1)), 0, 0),
    ((((0, 0), 1), ((0, 0), -1)), 0, 0), ((((1, 2), 1), ((0, 0), 1), ((0, 0), 5)), 0, 0), ((("x", 1),), 0, 0),
    ((((0, 0), 1), None), 0, 0), ((), 0, Machine(SMALL)), (Machine(SMALL), 0, 0),
]


def alternating(word):
    """What is left of x and y, of t, of x and y .. in turns: words are alike on the ground just if it is the same."""
    parts = []
    for letter, power in word:
        kind, sums = letter == "t", {"x": (power, 0), "y": (0, power), "t": (power, 0)}[letter]
        if parts and parts[-1][0] == kind:
            ahead = parts.pop()[1]
            sums = (ahead[0] + sums[0], ahead[1] + sums[1])
        if sums != (0, 0):
            parts.append((kind, sums))
    return parts


def whole_word(told):
    """A FORM's word, unfreed."""
    word = []
    for (r, s), power in told[0]:
        word += [("y", -s), ("x", -r), ("t", power), ("x", r), ("y", s)]
    return tuple(syllable for syllable in [*word, ("x", told[1]), ("y", told[2])] if syllable[1] != 0)


def is_right(told):
    return all(power != 0 for _, power in told[0]) and all(a[0] != b[0] for a, b in zip(told[0], told[0][1:]))


class Form(StrictCase):
    def test_x_and_y_alone(self):
        self.same(form(()), NOTHING)
        self.same(form((("x", 3),)), ((), 3, 0))
        self.same(form((("y", 1), ("x", 2), ("y", -4), ("x", -5))), ((), -3, -3))
        self.same(form((("x", 1), ("y", 1), ("x", -1), ("y", -1))), NOTHING)

    def test_t_is_moved_by_what_stands_ahead(self):
        self.same(form((("t", 2),)), ((((0, 0), 2),), 0, 0))
        self.same(form((("x", 5), ("t", 1))), ((((-5, 0), 1),), 5, 0))
        self.same(form((("y", -2), ("x", 5), ("t", -3), ("x", 1))), ((((-5, 2), -3),), 6, -2))
        self.same(form((("t", 1), ("x", 5))), ((((0, 0), 1),), 5, 0))
        self.same(form((("y", -3), ("x", -2), ("t", 4), ("x", 2), ("y", 3))), ((((2, 3), 4),), 0, 0))

    def test_ts_that_are_made_one(self):
        self.same(form((("t", 2), ("x", 1), ("y", 1), ("x", -1), ("y", -1), ("t", 3))), ((((0, 0), 5),), 0, 0))
        self.same(form((("x", 1), ("t", 1), ("t", 1), ("x", -1))), ((((-1, 0), 2),), 0, 0))

    def test_ts_that_go_out(self):
        self.same(form((("t", 2), ("y", 1), ("y", -1), ("t", -2))), NOTHING)
        word = (("t", 1), ("x", 1), ("t", 4), ("y", 2), ("x", 3), ("y", -2), ("x", -3), ("t", -4), ("x", -1), ("t", 1))
        self.same(form(word), ((((0, 0), 2),), 0, 0))
        self.same(form(word[:-1] + (("t", -1),)), NOTHING)

    def test_ts_that_stay(self):
        self.same(form((("t", 1), ("x", 1), ("t", -1))), ((((0, 0), 1), ((-1, 0), -1)), 1, 0))
        self.same(form((("t", 1), ("y", 1), ("t", 1), ("y", -1), ("t", 1))),
                  ((((0, 0), 1), ((0, -1), 1), ((0, 0), 1)), 0, 0))

    def test_great_powers(self):
        self.same(form((("x", BIG), ("t", BIG), ("y", -BIG), ("t", -1))), ((((-BIG, 0), BIG), ((-BIG, BIG), -1)), BIG, -BIG))
        self.same(form((("x", BIG), ("t", BIG), ("x", -BIG), ("x", BIG), ("t", -BIG), ("x", -BIG))), NOTHING)

    def test_the_one_form_of_some_words(self):
        for word in WORDS:
            told = form(word)
            self.assertTrue(is_right(told))
            self.same(alternating(whole_word(told)), alternating(word))
            self.same(form(letters_freed(word)), told)

    def test_400_syllables(self):
        word = tuple((GROUND[at % 3], 1) for at in range(400))
        self.same(form(word), (tuple(((-at, -at), 1) for at in range(1, 134)), 134, 133))
        self.same(form(word + backward(word)), NOTHING)


class FormWord(StrictCase):
    def test_its_word(self):
        self.same(form_word(NOTHING), ())
        self.same(form_word(((), 2, -3)), (("x", 2), ("y", -3)))
        self.same(form_word(((((1, 2), 3),), 4, 5)),
                  (("y", -2), ("x", -1), ("t", 3), ("x", 1), ("y", 2), ("x", 4), ("y", 5)))

    def test_it_is_freed(self):
        self.same(form_word(((((1, 0), 3),), -1, 0)), (("x", -1), ("t", 3)))
        self.same(form_word(((((0, 2), 3),), 0, -2)), (("y", -2), ("t", 3)))
        self.same(form_word(((((2, 5), 1), ((1, 5), -1)), -1, -5)),
                  (("y", -5), ("x", -2), ("t", 1), ("x", 1), ("t", -1), ("x", 1), ("y", 5), ("x", -1), ("y", -5)))
        self.same(form_word(((((1, 0), 3),), -3, 2)), (("x", -1), ("t", 3), ("x", -2), ("y", 2)))

    def test_there_and_back(self):
        for word in WORDS:
            told = form(word)
            self.same(form_word(told), letters_freed(whole_word(told)))
            self.same(form(form_word(told)), told)

    def test_great_powers(self):
        told = ((((BIG, -BIG), BIG), ((BIG, 0), -1)), -BIG, BIG)
        self.same(form_word(told), (("y", BIG), ("x", -BIG), ("t", BIG), ("x", BIG), ("y", -BIG), ("x", -BIG), ("t", -1),
                                    ("y", BIG)))
        self.same(form(form_word(told)), told)


class FormsOfForms(StrictCase):
    def test_times(self):
        here = ((((-5, 0), 1),), 5, 0)
        self.same(times(here, here), ((((-5, 0), 1), ((-10, 0), 1)), 10, 0))
        self.same(times(here, ((((0, 0), -1),), -5, 0)), NOTHING)
        self.same(times(here, ((((0, 0), 2),), 1, 7)), ((((-5, 0), 3),), 6, 7))
        self.same(times(NOTHING, here), here)
        self.same(times(here, NOTHING), here)

    def test_times_is_that_of_the_words_put_together(self):
        for one, other in zip(WORDS, WORDS[3:] + WORDS[:3]):
            self.same(times(form(one), form(other)), form(one + other))
            self.same(times(form(one), form(backward(one))), NOTHING)

    def test_undone(self):
        self.same(form_undone(NOTHING), NOTHING)
        self.same(form_undone(((((1, 2), 3), ((4, 5), -6)), 7, 8)), ((((11, 13), 6), ((8, 10), -3)), -7, -8))
        for word in WORDS:
            self.same(form_undone(form(word)), form(backward(word)))
            self.same(form_undone(form_undone(form(word))), form(word))

    def test_moved(self):
        self.same(moved_form(NOTHING, (3, 4)), NOTHING)
        self.same(moved_form(((((1, 2), 3), ((0, 0), 1)), 4, 5), (10, -20)), ((((11, -18), 3), ((10, -20), 1)), 4, 5))
        for word, (r, s) in itertools.product(WORDS[:60], ((1, 2), (-3, 1), (2, -1))):
            around = (("y", -s), ("x", -r)) + word + (("x", r), ("y", s))
            self.same(moved_form(form(word), (r, s)), form(around))
        for word in WORDS:
            self.same(moved_form(form(word), (0, 0)), form(word))

    def test_great_numbers(self):
        told = ((((BIG, 0), BIG),), BIG, -BIG)
        self.same(times(told, told), ((((BIG, 0), BIG), ((0, BIG), BIG)), 2 * BIG, -2 * BIG))
        self.same(form_undone(told), ((((2 * BIG, -BIG), -BIG),), -BIG, BIG))
        self.same(moved_form(told, (-BIG, BIG)), ((((0, BIG), BIG),), BIG, -BIG))


class GroundAlike(StrictCase):
    def test_alike(self):
        for one, other in (
            ((), ()), ((("x", 1), ("x", -1)), ()), ((("x", 2), ("y", 3)), (("y", 3), ("x", 2))),
            ((("x", 1), ("y", 1), ("t", 1)), (("y", 1), ("x", 1), ("t", 1))),
            ((("t", 1), ("x", -1), ("y", 2), ("x", 1), ("y", -2), ("t", 1)), (("t", 2),)),
        ):
            self.same(ground_alike(one, other), True)
            self.same(ground_alike(other, one), True)

    def test_unlike(self):
        for one, other in (
            ((("x", 1),), ()), ((("x", 1),), (("y", 1),)), ((("x", 1),), (("x", -1),)), ((("t", 1),), (("t", 2),)),
            ((("x", 1), ("t", 1)), (("t", 1), ("x", 1))), ((("y", 1), ("t", 1)), (("t", 1), ("y", 1))),
            ((("y", -1), ("t", 1), ("y", 1)), (("t", 1),)), ((("t", 1), ("x", 1), ("t", 1)), (("t", 2), ("x", 1))),
        ):
            self.same(ground_alike(one, other), False)
            self.same(ground_alike(other, one), False)

    def test_each_word_beside_its_forms_word(self):
        for word in WORDS:
            self.same(ground_alike(word, form_word(form(word))), True)
            self.same(ground_alike(word, word + (("t", 1),)), False)

    def test_all_small_words_beside_one_another(self):
        parts = [(letter, power) for letter in GROUND for power in (1, -1)]
        words = [word for many in range(4) for word in itertools.product(parts, repeat=many)]
        for one, other in itertools.product(words, words[::7]):
            self.same(ground_alike(one, other), alternating(one) == alternating(other))


class Wrong(StrictCase):
    def looks_at_words(self):
        return (form, ground_paper, lambda word: ground_alike(word, ()), lambda word: ground_alike((), word),
                lambda word: ground_alike(word, [("x", 0)]), lambda word: shows_ground_paper(word, ()),
                lambda word: shows_ground_paper(word, None))

    def test_no_word(self):
        for wrong in [value for value in any_values() if value != ()] + BAD_WORDS:
            for look in self.looks_at_words():
                with self.subTest(value=wrong):
                    self.refused(BadWord, wrong, look, wrong)

    def test_hands_and_k(self):
        for number, word in (
            (0, (("h0", 1),)), (0, (("k", -1),)), (0, (("h0", 1), ("h1", 1))), (1, (("x", 2), ("h80", -1), ("k", 1))),
            (2, (("x", 1), ("t", 1), ("k", 1), ("k", -1))), (3, (("x", 1), ("t", 1), ("y", 5), ("h123456789", 1))),
            (1, (("y", 1), ("h" + "9" * 5000, -1))), (0, (("k", 1), ("k", -1))),
        ):
            for look in self.looks_at_words():
                self.refused_number(HasHands, number, look, word)

    def test_errors_for_one_stand_ahead_of_those_for_other(self):
        wrong = (("x", 0),)
        self.refused_number(HasHands, 0, ground_alike, (("k", 1),), wrong)
        self.refused(BadWord, wrong, ground_alike, wrong, (("k", 1),))
        self.refused_number(HasHands, 1, ground_alike, (("x", 1), ("k", 1)), (("k", 1),))

    def test_no_form(self):
        for wrong in any_values() + BAD_FORMS:
            with self.subTest(value=wrong):
                self.refused(BadForm, wrong, form_word, wrong)
                self.refused(BadForm, wrong, form_undone, wrong)
                self.refused(BadForm, wrong, times, wrong, NOTHING)
                self.refused(BadForm, wrong, times, NOTHING, wrong)
                self.refused(BadForm, wrong, times, wrong, [])
                self.refused(BadForm, wrong, moved_form, wrong, (0, 0))
                self.refused(BadForm, wrong, moved_form, wrong, None)

    def test_no_pair(self):
        for wrong in any_values() + [[1, 2], (1,), (1, True), ("1", 2), (1, None), (1, 2, 3)]:
            self.refused(BadPair, wrong, moved_form, NOTHING, wrong)

    def test_by_names(self):
        word, told = (("x", 1),), ((), 1, 0)
        self.same(form(word=word), told)
        self.same(form_word(form=told), word)
        self.same(form_undone(form=told), ((), -1, 0))
        self.same(times(other=((), 0, 2), one=told), ((), 1, 2))
        self.same(moved_form(pair=(1, 1), form=told), told)
        self.same(ground_alike(other=(), one=word), False)
        self.same(ground_paper(word=word), ground_paper(word))
        self.same(shows_ground_paper(value=(), word=word), True)


if __name__ == "__main__":
    unittest.main()
