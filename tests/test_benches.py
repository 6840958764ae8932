"""Section 14: Bench, but its trials."""

import random
import unittest

from emptywords.benches import Bench
from emptywords.books import exchanged, product_word
from emptywords.errors import BadExchange, BadMachine, BadMost, BadWord, NoBlock, NothingToRedo, NothingToUndo
from emptywords.journals import journal, read_journal
from emptywords.pairs import Machine
from emptywords.top import verdict, word_of_pair
from emptywords.words import moved, read_word
from tests.helping import SMALL, StrictCase, any_values, backward, letters_freed, some_words
from tests.test_books import BAD_ROWS
from tests.test_words import BAD_WORDS
from tests.test_wrong_inputs import BAD_MOSTS

ONE = "figures 2\nrow 1 0 0 right"
TWO = "figures 2\nrow 1 0 0 left\nrow 0 1 1 right"
TURN = ("xy", 1, 1)
LETTERS = ("x", "y", "t", "k", "h0", "h1")
RING = (("x", 2), ("y", 1), ("x", -2), ("y", -1))


def all_of(bench):
    """All that a bench shows, and what can be undone and done again."""
    seen = [(bench.machine.text, bench.beginning, bench.word, bench.deeds, len(bench), bench.product(), journal(bench))]
    other = bench.copy()
    for deed in (other.redo, other.undo):
        while True:
            try:
                deed()
            except ValueError as error:
                seen.append(error.__class__.__name__)
                break
            seen.append((other.beginning, other.word, other.deeds, len(other), other.product(), journal(other)))
    return seen


def worked(chance, deeds, text=TWO):
    """A bench at which so many drawn deeds were done, some of them taken back, some done again."""
    bench, words = Bench(text), some_words(LETTERS, 30, 6)
    rows = (TURN, ("xy", -2, 1), ("x", 0, 1), ("y", 1, -2), ("t", 0, 1), ("t", 1, -1), ("kt", 2), ("kh", 1), ("kh", 0))
    for _ in range(deeds):
        kind = chance.randrange(8)
        try:
            if kind == 0:
                bench.begin(chance.choice(words))
            elif kind == 1:
                bench.undo()
            elif kind == 2:
                bench.redo()
            else:
                at, cut = chance.randint(0, len(bench.word)), 0
                if at < len(bench.word) and bench.word[at][0] in ("x", "y", "t"):
                    power = bench.word[at][1]
                    cut = chance.randrange(power) if power > 0 else -chance.randrange(-power)
                bench.exchange(at, cut, chance.choice(rows), chance.choice((1, -1)))
        except (NothingToUndo, NothingToRedo):
            pass
    return bench


class Begun(StrictCase):
    def shows(self, bench, beginning, word, deeds, exchanges):
        self.same((bench.beginning, bench.word, bench.deeds, len(bench)), (beginning, word, deeds, exchanges))

    def test_at_first(self):
        bench = Bench(TWO)
        self.assertEqual(bench.machine, Machine(TWO))
        self.shows(bench, (), (), 0, 0)
        self.same(bench.product(), ())
        self.same(bench.verdict(1), ("empty",))

    def test_no_machine(self):
        for text, number in ((None, 0), (Machine(TWO), 0), ("", 1), ("figures 2", 2), (TWO + "\nrow 0 1 0 left", 4), (TWO + "\ndeeds", 4)):
            self.refused_number(BadMachine, number, Bench, text)
        for value in any_values():
            if value != SMALL:
                with self.assertRaises(BadMachine):
                    Bench(value)

    def test_words_that_are_freed_or_not(self):
        bench = Bench(TWO)
        self.assertIs(bench.begin(RING), None)
        self.shows(bench, RING, RING, 1, 0)
        bench.begin((("x", 1), ("x", 1), ("h0", 1), ("h0", -1), ("k", 1)))
        self.shows(bench, (("x", 2), ("k", 1)), (("x", 2), ("k", 1)), 2, 0)
        bench.begin(())
        self.shows(bench, (), (), 3, 0)
        bench.begin(word=(("t", 1), ("t", -1)))
        self.shows(bench, (), (), 4, 0)

    def test_no_word(self):
        bench = Bench(TWO)
        bench.begin(RING)
        bench.exchange(0, 1, TURN, 1)
        ahead = all_of(bench)
        for wrong in [value for value in any_values() if value != ()] + BAD_WORDS:
            self.refused(BadWord, wrong, bench.begin, wrong)
        self.same(all_of(bench), ahead)


class Exchange(StrictCase):
    def test_it_becomes_what_exchanged_tells(self):
        chance = random.Random(1)
        for _ in range(60):
            bench = worked(chance, 12)
            word = bench.word
            at, sign = chance.randint(0, len(word)), chance.choice((1, -1))
            deeds, many, beginning = bench.deeds, len(bench), bench.beginning
            self.assertIs(bench.exchange(at, 0, ("t", 1, 2), sign), None)
            self.same(bench.word, exchanged(Machine(TWO), word, (at, 0, ("t", 1, 2), sign)))
            self.same((bench.beginning, bench.deeds, len(bench)), (beginning, deeds + 1, many + 1))

    def test_with_cut(self):
        bench = Bench(TWO)
        bench.begin(RING)
        bench.exchange(0, 1, TURN, -1)
        self.same(bench.word, (("x", 1), ("y", 1), ("x", -1), ("y", -1)))
        bench.exchange(sign=-1, row=TURN, cut=0, at=0)
        self.same(bench.word, ())
        self.same((bench.deeds, len(bench), bench.beginning), (3, 2, RING))

    def test_each_part_that_cannot_be(self):
        bench = Bench(TWO)
        bench.begin(RING)
        bench.exchange(0, 1, TURN, -1)
        bench.undo()
        ahead, number = all_of(bench), 0
        wrong = [(at, 0, TURN, 1) for at in (-1, 5, 100, True, None, "0", (), [0])]
        wrong += [(0, cut, TURN, 1) for cut in (2, 3, -1, True, False, None, "1", ("x", 1), (1,), [1])] + [(4, 1, TURN, 1), (1, 1, TURN, 1), (2, 1, TURN, 1)]
        wrong += [(0, 0, row, 1) for row in BAD_ROWS] + [(0, 0, ("kh", 2), 1), (0, 0, ("t", 1), 1)]
        wrong += [(0, 0, TURN, sign) for sign in (0, 2, -2, True, None, "1", (1,), [1])]
        wrong += [(-1, 2, (), 0)] + [(value, value, value, value) for value in any_values()]
        for value in wrong:
            with self.assertRaises(BadExchange) as caught:
                bench.exchange(*value)
            told = caught.exception.value
            self.assertEqual((type(told), len(told)), (tuple, 4))
            for one, other in zip(told, value):
                self.assertIs(one, other)
            number += 1
        self.assertGreater(number, 100)
        self.same(all_of(bench), ahead)
        bench.redo()

    def test_by_the_word_as_it_is(self):
        bench = Bench(TWO)
        with self.assertRaises(BadExchange):
            bench.exchange(1, 0, TURN, 1)
        bench.exchange(0, 0, TURN, 1)
        bench.exchange(4, 0, TURN, 1)
        with self.assertRaises(BadExchange):
            bench.exchange(9, 0, TURN, 1)


class Product(StrictCase):
    def test_movers(self):
        bench = Bench(TWO)
        bench.begin(read_word(Machine(TWO), "x 2 t 1 x -2"))
        bench.exchange(0, 1, ("xy", 3, -1), 1)
        self.same(bench.product(), (((("x", 1),), ("xy", 3, -1), 1),))
        bench.exchange(2, 0, ("kh", 1), -1)
        self.same(bench.product(), (((("x", 4), ("y", -1)), ("kh", 1), -1), ((("x", 1),), ("xy", 3, -1), 1)))
        bench.exchange(0, 0, ("kt", 2), 1)
        self.same(bench.product()[0], ((), ("kt", 2), 1))
        bench.exchange(0, 0, ("kt", 2), -1)
        word = bench.word
        bench.exchange(len(word), 0, TURN, 1)
        self.same(bench.product()[0], (word, TURN, 1))

    def test_cut_below_0(self):
        bench = Bench(TWO)
        bench.begin((("k", 1), ("t", -4)))
        bench.exchange(1, -3, ("x", 1, 2), -1)
        self.same(bench.product(), (((("k", 1), ("t", -3)), ("x", 1, 2), -1),))

    def test_its_word(self):
        chance = random.Random(2)
        for deeds in range(60):
            bench = worked(chance, deeds)
            word = letters_freed(bench.word + backward(bench.beginning))
            self.same(product_word(bench.machine, bench.product()), word)
            self.same(len(bench.product()), len(bench))
            self.assertIs(type(bench.product()), tuple)

    def test_behind_a_second_begin(self):
        bench = Bench(TWO)
        bench.begin(RING)
        bench.exchange(0, 1, TURN, -1)
        bench.begin((("x", 1),))
        self.same((bench.product(), len(bench), bench.deeds), ((), 0, 3))
        bench.exchange(1, 0, TURN, 1)
        self.same((bench.product(), len(bench), bench.deeds), (((bench.beginning, TURN, 1),), 1, 4))
        bench.undo()
        bench.undo()
        self.same((bench.product(), len(bench), bench.deeds), ((((("x", 1),), TURN, -1),), 1, 2))
        self.same((bench.beginning, bench.word), (RING, (("x", 1), ("y", 1), ("x", -1), ("y", -1))))

    def test_verdict(self):
        bench = Bench(TWO)
        bench.begin(word_of_pair((0, 1)))
        for most in (1, 2, 9, 400):
            self.same(bench.verdict(most), verdict(Machine(TWO), word_of_pair((0, 1)), most))
        self.same(bench.verdict(most=9), bench.verdict(9))
        bench.begin((("k", 1),) + moved((0, 1), 1) + (("k", -1), ("x", 1)))
        self.same(bench.verdict(9), verdict(Machine(TWO), bench.word, 9))
        for wrong in BAD_MOSTS:
            self.refused(BadMost, wrong, bench.verdict, wrong)
        chance = random.Random(3)
        for _ in range(30):
            bench = worked(chance, 9)
            self.same(bench.verdict(7), verdict(bench.machine, bench.word, 7))


class Undone(StrictCase):
    def test_nothing(self):
        bench = Bench(TWO)
        self.refused(NothingToUndo, None, bench.undo)
        self.refused(NothingToRedo, None, bench.redo)
        bench.begin(())
        self.refused(NothingToRedo, None, bench.redo)
        bench.undo()
        self.refused(NothingToUndo, None, bench.undo)
        self.same((bench.beginning, bench.word, bench.deeds, len(bench)), ((), (), 0, 0))

    def test_one_behind_another(self):
        bench = Bench(TWO)
        seen = [(bench.beginning, bench.word, bench.deeds, len(bench), bench.product())]
        deeds = [lambda: bench.exchange(0, 0, TURN, 1), lambda: bench.exchange(1, 0, ("kt", 1), -1), lambda: bench.begin(RING),
                 lambda: bench.exchange(0, 1, TURN, -1), lambda: bench.begin(()), lambda: bench.begin((("t", 3),)),
                 lambda: bench.exchange(0, 2, ("kh", 1), 1), lambda: bench.exchange(0, 0, ("kh", 1), 1)]
        for deed in deeds:
            deed()
            seen.append((bench.beginning, bench.word, bench.deeds, len(bench), bench.product()))
        for _ in range(2):
            for wanted in seen[-2::-1]:
                self.assertIs(bench.undo(), None)
                self.same((bench.beginning, bench.word, bench.deeds, len(bench), bench.product()), wanted)
            self.refused(NothingToUndo, None, bench.undo)
            for wanted in seen[1:]:
                self.assertIs(bench.redo(), None)
                self.same((bench.beginning, bench.word, bench.deeds, len(bench), bench.product()), wanted)
            self.refused(NothingToRedo, None, bench.redo)

    def test_redo_goes_with_another_deed(self):
        for deed in (lambda: bench.begin(()), lambda: bench.exchange(0, 0, TURN, 1)):
            bench = Bench(TWO)
            bench.begin(RING)
            bench.exchange(0, 0, TURN, 1)
            bench.undo()
            bench.undo()
            bench.redo()
            deed()
            self.refused(NothingToRedo, None, bench.redo)
            self.same(bench.deeds, 2)

    def test_redo_stays_with_what_is_refused_or_no_deed(self):
        bench = Bench(TWO)
        bench.begin(RING)
        bench.undo()
        for error, look in ((BadWord, lambda: bench.begin(None)), (BadExchange, lambda: bench.exchange(1, 0, TURN, 1)),
                            (NothingToUndo, bench.undo), (BadMost, lambda: bench.verdict(0)), (NoBlock, bench.keep)):
            self.assertRaises(error, look)
        bench.product()
        bench.verdict(9)
        bench.copy().begin(())
        bench.redo()
        self.same((bench.beginning, bench.deeds), (RING, 1))

    def test_many(self):
        chance = random.Random(4)
        for deeds in range(40):
            bench = worked(chance, deeds)
            ahead, many = all_of(bench), bench.deeds
            for _ in range(many):
                bench.undo()
            self.refused(NothingToUndo, None, bench.undo)
            for _ in range(many):
                bench.redo()
            self.same(all_of(bench), ahead)


class Copied(StrictCase):
    def test_alike_in_all_things(self):
        chance = random.Random(5)
        for deeds in range(40):
            bench = worked(chance, deeds)
            other = bench.copy()
            self.assertIsNot(other, bench)
            self.assertTrue(other == bench)
            self.same(all_of(other), all_of(bench))

    def test_changed_by_itself(self):
        bench = Bench(TWO)
        bench.begin(RING)
        bench.exchange(0, 0, TURN, 1)
        bench.exchange(0, 0, TURN, 1)
        bench.undo()
        ahead, other = all_of(bench), bench.copy()
        for deed in (lambda: other.exchange(0, 0, ("kt", 1), 1), other.undo, other.undo, other.redo, lambda: other.begin(()), other.undo, other.undo):
            deed()
            self.same(all_of(bench), ahead)
        third = bench.copy()
        seen = all_of(third)
        for deed in (bench.redo, bench.undo, bench.undo, bench.undo, lambda: bench.begin((("t", 1),))):
            deed()
            self.same(all_of(third), seen)

    def test_outside_of_all_trials(self):
        bench = Bench(TWO)
        others = []
        bench.tried(lambda held: others.append(held.copy()))
        self.refused(NoBlock, None, others[0].keep)
        bench.tried(lambda held: self.refused(NoBlock, None, held.copy().keep))


class Equal(StrictCase):
    def alike(self, one, other, wanted):
        self.assertIs(one == other, wanted)
        self.assertIs(other == one, wanted)
        self.assertIs(one != other, not wanted)

    def test_by_their_journals(self):
        one, other = Bench(TWO), Bench(TWO)
        self.alike(one, other, True)
        self.alike(one, Bench(ONE), False)
        one.begin(RING)
        self.alike(one, other, False)
        other.begin(RING)
        self.alike(one, other, True)
        one.exchange(0, 0, TURN, 1)
        other.exchange(0, 0, TURN, 1)
        self.alike(one, other, True)
        one.exchange(0, 0, TURN, 1)
        self.alike(one, other, False)
        # What was undone is not in it.
        one.undo()
        self.alike(one, other, True)
        # The word is the same, but not what was done.
        one.undo()
        other.undo()
        one.begin(())
        other.begin((("x", 1), ("x", -1)))
        self.same(one.word, other.word)
        self.alike(one, other, False)

    def test_each_part_of_an_exchange(self):
        deeds = [(0, 0, TURN, 1), (0, 0, TURN, -1), (0, 1, TURN, 1), (1, 0, TURN, 1), (0, 0, ("xy", 1, -1), 1), (0, 0, ("kh", 1), 1), (0, 0, ("kt", 1), 1)]
        benches = []
        for deed in deeds:
            benches.append(Bench(TWO))
            benches[-1].begin(RING)
            benches[-1].exchange(*deed)
        for one in benches:
            for other in benches:
                self.alike(one, other, one is other)

    def test_many(self):
        chance = random.Random(6)
        benches = [worked(chance, deeds % 4) for deeds in range(40)]
        for one in benches:
            self.alike(one, read_journal(journal(one)), True)
            for other in benches:
                self.alike(one, other, journal(one) == journal(other))

    def test_nothing_else(self):
        bench = Bench(SMALL)
        for value in any_values() + [journal(bench), bench.machine]:
            self.alike(bench, value, isinstance(value, Bench))
        self.assertRaises(TypeError, lambda: bench + bench)
        self.assertRaises(TypeError, lambda: bench < bench)


if __name__ == "__main__":
    unittest.main()
