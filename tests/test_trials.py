"""Section 14: tried and keep of a Bench."""

import random
import unittest

from emptywords.benches import Bench
from emptywords.errors import BadExchange, NoBlock, NothingToRedo, NothingToUndo
from emptywords.journals import journal
from tests.helping import StrictCase, any_values
from tests.test_benches import RING, TURN, TWO, all_of, worked


class Broken(Exception):
    """What a look may raise."""


def begun():
    """A bench at which three deeds stand, and one more was taken back."""
    bench = Bench(TWO)
    bench.begin(RING)
    bench.exchange(0, 1, TURN, -1)
    bench.exchange(0, 0, ("kt", 1), 1)
    bench.exchange(0, 0, ("kh", 1), 1)
    bench.undo()
    return bench


def raising(look):
    """A look that does this and then raises."""
    def both(bench):
        look(bench)
        raise Broken
    return both


def everything(bench):
    """All kinds of deeds."""
    bench.redo()
    bench.undo()
    bench.undo()
    bench.exchange(0, 0, ("t", 1, 5), -1)
    bench.begin((("x", 7),))
    bench.exchange(0, 3, TURN, 1)
    bench.begin(())
    bench.undo()
    return "all"


class Tried(StrictCase):
    def test_what_it_returns(self):
        bench = begun()
        for value in any_values():
            self.assertIs(bench.tried(lambda held, value=value: value), value)
            self.assertIs(bench.tried(lambda held, value=value: value, keep=True), value)
        self.assertIs(bench.tried(lambda held: held), bench)
        self.assertIs(bench.tried(look=lambda held: held.word, keep=False), bench.word)
        self.assertRaises(TypeError, lambda: bench.tried(lambda held: 1, True))

    def test_it_leaves_nothing(self):
        bench = begun()
        ahead = all_of(bench)
        self.same(bench.tried(everything), "all")
        self.same(all_of(bench), ahead)
        for look in (Bench.redo, Bench.undo, lambda held: held.begin(()), lambda held: held.exchange(0, 0, TURN, 1)):
            self.assertIs(bench.tried(look), None)
            self.same(all_of(bench), ahead)
            self.assertIs(bench.tried(look, keep=False), None)
            self.same(all_of(bench), ahead)

    def test_it_changes_within(self):
        bench = begun()
        seen = bench.tried(lambda held: (everything(held), held.beginning, held.word, held.deeds, len(held))[1:])
        other = begun()
        everything(other)
        self.same(seen, (other.beginning, other.word, other.deeds, len(other)))

    def test_kept(self):
        wanted = begun()
        everything(wanted)
        for look, keep in ((everything, True), (lambda held: [held.keep(), everything(held)], False),
                           (lambda held: [everything(held), held.keep(), held.keep()], False), (lambda held: [held.keep(), everything(held)], True)):
            bench = begun()
            bench.tried(look, keep=keep)
            self.same(all_of(bench), all_of(wanted))

    def test_kept_with_what_can_be_undone_and_done_again(self):
        bench = begun()
        bench.tried(lambda held: held.undo(), keep=True)
        self.same((bench.deeds, len(bench)), (2, 1))
        bench.redo()
        bench.redo()
        self.refused(NothingToRedo, None, bench.redo)
        self.same((bench.deeds, len(bench)), (4, 3))
        bench.tried(lambda held: [held.undo() for _ in range(4)], keep=True)
        self.refused(NothingToUndo, None, bench.undo)
        bench.tried(lambda held: held.begin(()), keep=True)
        self.refused(NothingToRedo, None, bench.redo)
        bench.undo()
        self.same(bench.deeds, 0)

    def test_other_values_of_keep(self):
        for keep in [value for value in any_values() if value is not True] + [1, "True", None, "yes", (True,), [True], {True: True}, 1.0]:
            bench = begun()
            ahead = all_of(bench)
            self.same(bench.tried(everything, keep=keep), "all")
            self.same(all_of(bench), ahead)

    def test_other_values_of_keep_with_keep_called(self):
        for keep in (1, None, "True", False):
            bench = begun()
            bench.tried(lambda held: [held.undo(), held.keep()], keep=keep)
            self.same(bench.deeds, 2)

    def test_a_look_that_raises(self):
        for look in (everything, lambda held: [held.keep(), everything(held)], lambda held: [everything(held), held.keep()], lambda held: None):
            for keep in (True, False):
                bench = begun()
                ahead = all_of(bench)
                self.assertRaises(Broken, bench.tried, raising(look), keep=keep)
                self.same(all_of(bench), ahead)
                self.refused(NoBlock, None, bench.keep)

    def test_errors_pass_on_as_they_are(self):
        bench = begun()
        for error in (Broken("a"), KeyError("b"), StopIteration(3), KeyboardInterrupt(), SystemExit(2)):
            def look(held, error=error):
                held.undo()
                raise error
            with self.assertRaises(BaseException) as caught:
                bench.tried(look, keep=True)
            self.assertIs(caught.exception, error)
            self.same(bench.deeds, 3)
        with self.assertRaises(BadExchange):
            bench.tried(lambda held: [held.undo(), held.exchange(-1, 0, TURN, 1)])
        self.same(bench.deeds, 3)
        self.assertRaises(TypeError, bench.tried, None)
        self.assertRaises(TypeError, bench.tried, lambda: 1)
        self.refused(NoBlock, None, bench.keep)

    def test_no_block(self):
        bench = begun()
        self.refused(NoBlock, None, bench.keep)
        bench.tried(lambda held: held.keep())
        self.refused(NoBlock, None, bench.keep)
        bench.tried(lambda held: None)
        self.refused(NoBlock, None, bench.keep)
        self.assertIs(bench.tried(lambda held: held.keep()), None)
        other = begun()
        bench.tried(lambda held: self.refused(NoBlock, None, other.keep))

    def test_undo_and_redo_go_on_to_what_was_done_ahead(self):
        bench = begun()

        def look(held):
            held.redo()
            self.same(held.deeds, 4)
            for _ in range(4):
                held.undo()
            self.refused(NothingToUndo, None, held.undo)
            self.same((held.word, held.beginning, held.deeds, len(held)), ((), (), 0, 0))
            for _ in range(4):
                held.redo()
            self.refused(NothingToRedo, None, held.redo)
            self.same(len(held), 3)

        ahead = all_of(bench)
        bench.tried(look)
        self.same(all_of(bench), ahead)
        bench.tried(look, keep=True)
        self.same(bench.deeds, 4)

    def test_a_copy_within(self):
        bench, others = begun(), []
        bench.tried(lambda held: [held.undo(), others.append(held.copy()), held.undo()])
        self.same((bench.deeds, others[0].deeds), (3, 2))
        others[0].redo()
        self.same(all_of(others[0]), all_of(bench))
        bench.tried(lambda held: others[0].begin(()))
        self.same((bench.deeds, others[0].deeds), (3, 4))


class Within(StrictCase):
    """Trials within trials."""

    def after(self, outer, inner, outer_keep=False, inner_keep=False):
        """How many deeds stand behind each of both; outer and inner are called with the bench behind one begin each."""
        bench, seen = begun(), []

        def inner_look(held):
            held.begin(())
            inner(held)

        def outer_look(held):
            held.begin(())
            held.tried(inner_look, keep=inner_keep)
            seen.append(held.deeds)
            outer(held)

        bench.tried(outer_look, keep=outer_keep)
        return seen + [bench.deeds]

    def test_each_with_keep(self):
        nothing = lambda held: None
        self.same(self.after(nothing, nothing), [4, 3])
        self.same(self.after(nothing, nothing, True, False), [4, 4])
        self.same(self.after(nothing, nothing, False, True), [5, 3])
        self.same(self.after(nothing, nothing, True, True), [5, 5])

    def test_keep_belongs_to_the_innermost_one(self):
        nothing = lambda held: None
        self.same(self.after(nothing, Bench.keep), [5, 3])
        self.same(self.after(Bench.keep, nothing), [4, 4])
        self.same(self.after(Bench.keep, Bench.keep), [5, 5])
        self.same(self.after(nothing, Bench.keep, True), [5, 5])

    def test_an_error_within(self):
        bench = begun()
        ahead = all_of(bench)

        def outer(held):
            held.undo()
            middle = all_of(held)
            self.assertRaises(Broken, held.tried, raising(everything), keep=True)
            self.same(all_of(held), middle)
            self.assertRaises(Broken, held.tried, raising(lambda deeper: deeper.tried(everything, keep=True)), keep=True)
            self.same(all_of(held), middle)
            return held.tried(everything, keep=True)

        self.same(bench.tried(outer), "all")
        self.same(all_of(bench), ahead)
        bench.tried(outer, keep=True)
        other = begun()
        other.undo()
        everything(other)
        self.same(all_of(bench), all_of(other))

    def test_many_deep(self):
        bench = begun()

        def deeper(level):
            def look(held):
                held.begin((("x", level),))
                if level > 1:
                    held.tried(deeper(level - 1), keep=level % 2 == 0)
                return held.deeds
            return look

        self.same(bench.tried(deeper(30)), 5)
        self.same(bench.deeds, 3)
        self.same(bench.tried(deeper(31), keep=True), 4)
        self.same((bench.deeds, bench.word), (4, (("x", 31),)))
        self.refused(NoBlock, None, bench.keep)

    def test_drawn(self):
        chance = random.Random(7)
        for deeds in range(40):
            bench = worked(chance, deeds)
            other, ahead, text = bench.copy(), all_of(bench), journal(bench)
            drawn = random.Random(deeds)

            def look(held, depth=3):
                for _ in range(3):
                    kind = drawn.randrange(5)
                    if kind == 0:
                        held.begin((("t", drawn.randint(1, 9)),))
                    elif kind == 1 and held.deeds:
                        held.undo()
                    elif kind == 2 and depth:
                        held.tried(lambda deep: look(deep, depth - 1), keep=drawn.random() < 0.5)
                    else:
                        held.exchange(0, 0, TURN, 1)

            bench.tried(look)
            self.same(all_of(bench), ahead)
            self.same((journal(bench), bench == other), (text, True))


if __name__ == "__main__":
    unittest.main()
