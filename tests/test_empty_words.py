"""Section 10: is_empty, alike, why, shows_why."""

import random
import unittest

from emptywords.books import exchanged, is_product, product_word
from emptywords.errors import BadWord, HasK, NoMachine
from emptywords.hands import alike, is_empty, shows_why, tower, tower_word, why
from emptywords.pairs import Machine, follows, goes
from emptywords.words import moved, read_word
from tests.helping import SMALL, StrictCase, any_values, backward, letters_freed, some_words
from tests.test_products import BAD_PRODUCTS
from tests.test_words import BAD_WORDS

TURN = Machine("figures 2\nrow 1 0 0 right\nrow 0 1 1 left")
THREE = Machine("figures 3\nrow 1 2 4 right\nrow 0 2 7 left\nrow 2 0 0 right\nrow 1 1 0 left")
# (2, 3) and (5, 1) follow one another, and so do others that leave the same rests.
LOOP = Machine("figures 2\nrow 0 1 1 right\nrow 1 1 3 left")
LETTERS = ("x", "y", "t", "h0", "h1")
NOTHING = ((), 0, 0)


def put_in_at_drawn_places(machine, word, rows, chance):
    """The word, freed, with so many rows of the book put in."""
    word = letters_freed(word)
    for _ in range(rows):
        at, cut = chance.randint(0, len(word)), 0
        if at < len(word) and word[at][0] in ("x", "y", "t"):
            power = word[at][1]
            cut = chance.randrange(power) if power > 0 else -chance.randrange(-power)
        kind, hand, power = chance.choice(("xy", "x", "y", "t")), chance.randrange(len(machine.rows)), chance.choice((-2, -1, 1, 2))
        row = ("xy", chance.choice((-2, 1, 3)), power) if kind == "xy" else (kind, hand, power)
        word = exchanged(machine, word, (at, cut, row, chance.choice((1, -1))))
    return word


def words_with_rows(machine, many, rows, seed, start=()):
    chance = random.Random(seed)
    return [put_in_at_drawn_places(machine, start, 1 + at % rows, chance) for at in range(many)]


def led_round(ts, depth):
    """A word of LOOP, with so many moved t's within so many pinches within one another."""
    word, pair = (), (2, 3)
    for at in range(ts):
        word += moved((2 + 8 * at * (-1) ** at, 3), 1 + at % 2)
    for _ in range(depth):
        hand = f"h{goes(LOOP, pair)}"
        word, pair = ((hand, -1),) + word + ((hand, 1),), follows(LOOP, pair)
    return letters_freed(word)


class Empty(StrictCase):
    def gives(self, text, wanted):
        self.same(is_empty(TURN, read_word(TURN, text)), wanted)
        self.same(alike(TURN, read_word(TURN, text), ()), wanted)
        self.same(alike(TURN, (), read_word(TURN, text)), wanted)

    def test_empty_ones(self):
        for text in ("", "x 1 x -1", "x 1 y 1 x -1 y -1", "h0 1 h0 -1", "h0 -1 x 2 h0 1 x -4", "h0 -1 y 2 h0 1 y -1",
                     "h1 -1 x 2 h1 1 x -1", "h1 -1 y 2 h1 1 y -4", "h0 -1 x -1 t 1 x 1 h0 1 t -1", "x 4 h0 -1 x -2 h0 1",
                     "h1 -1 y -1 t 2 y 1 h1 1 y -1 t -2 y 1", "y 1 x -1 y -1 x 1"):
            self.gives(text, True)

    def test_others(self):
        for text in ("x 1", "y -1", "t 1", "h0 1", "h1 -1", "x 1 t 1 x -1 t -1", "y 1 t 1 y -1 t -1", "h0 1 h0 1", "h0 1 h1 -1",
                     "h0 1 h1 1 h0 -1 h1 -1", "h0 -1 x 1 h0 1 x -2", "h0 -1 t 1 h0 1 t -1", "h0 -1 x 2 h0 1 x -3",
                     "h0 1 x 2 h0 -1 x -1", "h0 -1 x -1 t 1 x 1 h0 1 t -2", "h0 -1 x 2 h0 1 y -4", "t 1 h0 1 t -1 h0 -1"):
            self.gives(text, False)

    def test_words_with_rows_put_in(self):
        for machine in (TURN, THREE, LOOP):
            for word in words_with_rows(machine, 120, 14, 5):
                self.same(is_empty(machine, word), True)
                self.same(is_empty(machine, backward(word)), True)

    def test_words_that_differ_by_a_syllable(self):
        chance = random.Random(9)
        for word in words_with_rows(TURN, 150, 14, 6):
            at, letter, power = chance.randint(0, len(word)), chance.choice(LETTERS), chance.choice((1, -1))
            self.same(is_empty(TURN, word[:at] + ((letter, power),) + word[at:]), False)

    def test_alike(self):
        for number, word in enumerate(some_words(LETTERS, 60, 10)):
            chance = random.Random(number)
            other = put_in_at_drawn_places(TURN, word, 6, chance)
            self.same(alike(TURN, word, other), True)
            self.same(alike(TURN, other, word), True)
            self.same(alike(TURN, word, tower_word(TURN, tower(TURN, other))), True)
            at, letter = chance.randint(0, len(other)), chance.choice(LETTERS)
            self.same(alike(TURN, word, other[:at] + ((letter, 1),) + other[at:]), False)

    def test_great_words(self):
        word = led_round(20, 40)
        self.same(is_empty(LOOP, word + backward(tower_word(LOOP, tower(LOOP, word)))), True)
        self.same(is_empty(LOOP, word), False)
        deep = (("h1", -1),) * 200 + (("y", 1 << 200),) + (("h1", 1),) * 200
        self.same(alike(LOOP, deep, (("y", 1 << 400),)), True)
        self.same(alike(LOOP, deep, (("y", (1 << 400) + 1),)), False)


class Why(StrictCase):
    def empty(self, machine, word):
        told = why(machine, word)
        self.same((type(told), len(told), told[0]), (tuple, 2, "empty"))
        self.same(product_word(machine, told[1]), letters_freed(word))
        self.same(is_product(machine, word, told[1]), True)
        self.same(shows_why(machine, word, told), True)

    def not_empty(self, machine, word):
        told = why(machine, word)
        self.same((type(told), len(told), told[0]), (tuple, 2, "not"))
        self.same(alike(machine, word, tower_word(machine, told[1])), True)
        self.assertNotEqual(told[1], (NOTHING,))
        self.same(shows_why(machine, word, told), True)

    def test_of_the_book(self):
        for text in ("", "x 1 x -1", "x 2 y 3 x -2 y -3", "y -1 x 2 y 1 x -2", "h0 1 h0 -1", "h0 -1 x -6 h0 1 x 12", "h0 -1 y 2 h0 1 y -1",
                     "h1 -1 x 2 h1 1 x -1", "h1 1 y 4 h1 -1 y -2", "h0 1 t 3 h0 -1 x -1 t -3 x 1", "h1 -1 y -1 t 2 y 1 h1 1 y -1 t -2 y 1",
                     "h1 1 y -1 t 2 y 1 h1 -1 y -1 t -2 y 1", "h0 -1 x 2 h0 1 x -4 h1 -1 y 2 h1 1 y -4"):
            self.empty(TURN, read_word(TURN, text))
            self.empty(TURN, backward(read_word(TURN, text)))

    def test_of_words_that_are_not_empty(self):
        for text in ("x 1", "h0 1", "t 1 x 1 t -1", "h0 -1 x 1 h0 1 x -2", "h0 1 h1 1 h0 -1 h1 -1"):
            self.not_empty(TURN, read_word(TURN, text))

    def test_of_words_with_rows_put_in(self):
        for machine in (TURN, THREE, LOOP):
            for word in words_with_rows(machine, 60, 12, 8):
                self.empty(machine, word)
                self.not_empty(machine, word + (("t", 1),))

    def test_of_many_words_and_their_towers(self):
        for machine, letters in ((TURN, LETTERS), (THREE, LETTERS + ("h2", "h3"))):
            for word in some_words(letters, 150, 14) + some_words(letters, 20, 50, 5):
                self.empty(machine, word + backward(tower_word(machine, tower(machine, word))))

    def test_of_pinches_within_one_another(self):
        word = read_word(TURN, "h0 1 y -3 h1 -1 y -2 h0 -1 x -1 y 3 h1 1 x -2 h0 -1 x 1 y -2 t 1 x 2 t -2 y -2 x -1 h0 1 y 2"
                               " h1 -1 y -1 x -3 h0 1 y -3 x -4 h1 1 y -1 x 2 h0 -1")
        self.empty(TURN, word + backward(tower_word(TURN, tower(TURN, word))))
        for ts, depth in ((1, 60), (2, 5), (6, 12)):
            word = led_round(ts, depth)
            self.empty(LOOP, word + backward(tower_word(LOOP, tower(LOOP, word))))
            self.empty(LOOP, backward(tower_word(LOOP, tower(LOOP, word))) + word)
            self.empty(LOOP, (("x", 3), ("y", -5)) + word + backward((("x", 3), ("y", -5)) + tower_word(LOOP, tower(LOOP, word))))

    def test_of_great_powers(self):
        for letter, hand, power in (("x", "h0", 1 << 50), ("y", "h1", 1 << 50), ("x", "h0", 2), ("y", "h1", -6 << 400)):
            word = ((hand, -1),) * 50 + ((letter, power),) + ((hand, 1),) * 50 + ((letter, -(power << 50)),)
            told = why(LOOP, word)
            self.same((told[0], is_product(LOOP, word, told[1])), ("empty", True))


class ShowsWhy(StrictCase):
    over = (("h0", -1), ("x", -1), ("t", 1), ("x", 1), ("h0", 1), ("t", -1))
    kept = (("h0", -1), ("x", 2), ("t", 1), ("x", -2), ("h0", 1))

    def gives(self, word, value, wanted):
        self.same(shows_why(TURN, word, value), wanted)

    def test_any_product(self):
        part = ((), ("t", 0, 1), 1)
        self.gives(self.over, ("empty", (part,)), True)
        self.gives(self.over, ("empty", (part, ((), ("xy", 1, 1), 1), ((), ("xy", 1, 1), -1))), True)
        self.gives(self.over, ("empty", (((("x", 1), ("x", -1)), ("t", 0, 1), 1),)), True)
        self.gives(self.over, ("empty", (((), ("kt", 1), 1), ((), ("kt", 1), -1), part)), True)
        self.gives((("x", 1), ("x", -1)), ("empty", ()), True)

    def test_no_product_for_it(self):
        for value in ((), (((), ("t", 0, 1), -1),), (((), ("t", 1, 1), 1),), (((), ("t", 0, 1), 1),) * 2, [((), ("t", 0, 1), 1)],
                      ([(), ("t", 0, 1), 1],), (((), ("t", 0, True), 1),), (((), ("t", 0, 1), True),), None):
            self.gives(self.over, ("empty", value), False)
        for value in BAD_PRODUCTS:
            self.gives(self.over, ("empty", value), False)

    def test_any_tower_that_is_alike(self):
        told = (NOTHING, ("h0", -1), ((((-2, 0), 1),), 0, 0), ("h0", 1), NOTHING)
        self.same(tower(TURN, self.kept), told)
        self.gives(self.kept, ("not", told), True)
        self.gives(self.kept, ("not", (((), 4, 0), ("h0", -1), ((((0, 0), 1),), 0, 0), ("h0", 1), ((), -4, 0))), True)
        self.gives(self.kept, ("not", (((), 4, 3), ("h0", -1), ((((0, 6), 1),), 0, 0), ("h0", 1), ((), -4, -3))), True)

    def test_towers_that_are_not_right(self):
        t = ((((0, 0), 1),), 0, 0)
        for value in (
            (((), 4, 0), ("h0", -1), t, ("h0", 1), ((), -3, 0)), (NOTHING, ("h0", -1), t, ("h0", 1), NOTHING), (NOTHING,), (t,),
            (((), 4, 0), ("h0", 1), t, ("h0", -1), ((), -4, 0)), (((), 4, 0), ("h0", -1), t, ("h0", 1)), (), None,
            [((), 4, 0), ("h0", -1), t, ("h0", 1), ((), -4, 0)], ([(), 4, 0], ("h0", -1), t, ("h0", 1), ((), -4, 0)),
            (((), 4, 0), ["h0", -1], t, ("h0", 1), ((), -4, 0)), (((), 4, 0), ("h0", -1), ((((0, 0), True),), 0, 0), ("h0", 1), ((), -4, 0)),
            (((), 4, False), ("h0", -1), t, ("h0", 1), ((), -4, 0)),
            # Alike, but with a pinch.
            (((), 4, 0), ("h0", -1), t, ("h0", 1), NOTHING, ("h1", 1), NOTHING, ("h1", -1), ((), -4, 0)),
        ):
            with self.subTest(value=value):
                self.gives(self.kept, ("not", value), False)

    def test_the_first_item(self):
        product, told = why(TURN, self.over)[1], why(TURN, self.kept)[1]
        for wrong in ("not", "in", "Empty", "", "e", True, None, 0, ("empty",), ["empty"]):
            self.gives(self.over, (wrong, product), False)
        for wrong in ("empty", "Not", "out", "", True, None, 0, ("not",), ["not"]):
            self.gives(self.kept, (wrong, told), False)
        self.gives(self.over, ("not", (NOTHING,)), False)
        self.gives(self.over, ("not", tower(TURN, self.over)), False)
        self.gives((), ("not", (NOTHING,)), False)
        self.gives((), ("not", ()), False)
        self.gives(self.kept, ("empty", ()), False)

    def test_any_value(self):
        for word in (self.over, self.kept, ()):
            right = why(TURN, word)
            for value in any_values() + [list(right), right + (1,), right[:1], right[1:], right[1], right[::-1], {right[0]: 1}, "empty", "not"]:
                self.gives(word, value, False)


class Wrong(StrictCase):
    def looks(self):
        return (is_empty, why, lambda machine, word: shows_why(machine, word, ("empty", ())),
                lambda machine, word: shows_why(machine, word, None), lambda machine, word: alike(machine, word, ()),
                lambda machine, word: alike(machine, word, None), lambda machine, word: alike(machine, word, (("k", 1),)))

    def test_no_machine(self):
        for wrong in any_values():
            if not isinstance(wrong, Machine):
                for look in self.looks():
                    self.refused(NoMachine, wrong, look, wrong, ())
                    self.refused(NoMachine, wrong, look, wrong, None)
                    self.refused(NoMachine, wrong, look, wrong, (("k", 1),))

    def test_no_word(self):
        for wrong in [value for value in any_values() if value != ()] + BAD_WORDS:
            for look in self.looks():
                self.refused(BadWord, wrong, look, TURN, wrong)
            self.refused(BadWord, wrong, alike, TURN, (), wrong)

    def test_the_first_k(self):
        for number, text in ((0, "k 1"), (0, "k 1 k -1"), (2, "x 1 x -1 k 1 k 1"), (3, "h0 1 h0 -1 t 1 k -1")):
            for look in self.looks():
                self.refused_number(HasK, number, look, TURN, read_word(TURN, text))
            self.refused_number(HasK, number, alike, TURN, (("x", 1),) * 7, read_word(TURN, text))

    def test_errors_for_one_stand_ahead_of_those_for_other(self):
        wrong = (("x", 0),)
        self.refused_number(HasK, 0, alike, TURN, (("k", 1),), wrong)
        self.refused(BadWord, wrong, alike, TURN, wrong, (("k", 1),))
        self.refused_number(HasK, 1, alike, TURN, (("t", 1), ("k", 1)), (("k", 1),))

    def test_by_names(self):
        word = (("x", 1),)
        self.same(is_empty(word=word, machine=TURN), False)
        self.same(alike(other=word, one=word, machine=TURN), True)
        self.same(why(word=word, machine=TURN), ("not", (((), 1, 0),)))
        self.same(shows_why(value=("not", (((), 1, 0),)), word=word, machine=TURN), True)

    def test_nothing_is_changed(self):
        small, wrong = Machine(SMALL), [["not", [[[], 0, 0]]]]
        self.same(shows_why(small, (), wrong), False)
        self.refused(BadWord, wrong, why, small, wrong)
        self.assertEqual(wrong, [["not", [[[], 0, 0]]]])
        self.same((small.text, small.figures, small.rows), (SMALL, 2, Machine(SMALL).rows))


if __name__ == "__main__":
    unittest.main()
