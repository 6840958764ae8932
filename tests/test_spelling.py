"""Section 11: hands_word, spelled_word, spelled_paper, led_by, run_in."""

import itertools
import unittest

from emptywords.books import is_product, product_word
from emptywords.errors import BadMost, BadPair, BadWord, NoMachine, NoRun, NotEnded
from emptywords.hands import is_empty, tower
from emptywords.leading import led, pairs_of
from emptywords.pairs import Machine, backs, comes, follows, goes, run
from emptywords.spelling import hands_word, led_by, run_in, spelled_paper, spelled_word
from emptywords.strips import Strip
from emptywords.words import moved, read_word
from tests.helping import SMALL, WIPE, StrictCase, any_values, backward, letters_freed
from tests.test_words import BAD_WORDS
from tests.test_wrong_inputs import BAD_MOSTS, BAD_PAIRS

SOME = Machine("figures 2\nrow 1 0 0 right\nrow 0 1 3 left\nrow 1 1 1 right")
THREE = Machine("figures 3\nrow 1 0 0 right\nrow 0 1 0 left\nrow 2 0 0 right\nrow 0 2 4 right\nrow 1 1 5 left\nrow 2 2 2 left")
# It wipes ones, one by one: so runs are as long as is wanted.
LONG = led(Strip(WIPE))
BAD_HANDS = [
    (("h0", -1),), (("h0", 1), ("h1", -1)), (("x", 1),), (("t", 1),), (("k", 1),), (("h0", 1), ("t", 1)), (("h0", 1), ("k", -1)),
    [("h0", 1)], (["h0", 1],), (("h3", 1),), (("h0", 1), ("h0", 2)), (("h0", True),), ("h0", 1), ("h0",), "h0 1", "h0", (0,), 0,
]


def hands(*numbers):
    return tuple((f"h{number}", 1) for number in numbers)


def ending(machine, highest, most):
    """The PAIRS, up to this number, whose runs end so soon."""
    pairs = itertools.product(range(highest), repeat=2)
    return [pair for pair in pairs if comes(machine, pair, most)[0] == "ends"]


class HandsWord(StrictCase):
    def test_the_end_itself(self):
        for most in (1, 400):
            self.same(hands_word(SOME, (0, 0), most), ())
            self.same(spelled_word(SOME, (0, 0), most), ())

    def test_one_step_and_several(self):
        self.same(hands_word(SOME, (1, 0), 9), hands(0))
        self.same(hands_word(SOME, (2, 1), 9), hands(1, 2, 2, 0))
        self.same(hands_word(SOME, (1, 3), 4), hands(2, 2, 0))
        self.same(spelled_word(SOME, (1, 0), 9), read_word(SOME, "h0 -1 x -1 t 1 x 1 h0 1 t -1"))
        self.same(spelled_word(SOME, (2, 1), 9),
                  read_word(SOME, "h0 -1 h2 -1 h2 -1 h1 -1 y -1 x -2 t 1 x 2 y 1 h1 1 h2 1 h2 1 h0 1 t -1"))

    def test_just_enough_and_one_too_few(self):
        self.same(hands_word(SOME, (1, 0), 1), hands(0))
        self.same(hands_word(SOME, (2, 1), 4), hands(1, 2, 2, 0))
        for call in (hands_word, spelled_word, spelled_paper):
            with self.assertRaises(NotEnded) as caught:
                call(SOME, (2, 1), 3)
            self.same(caught.exception.value, ("open", (1, 0)))

    def test_runs_that_do_not_end(self):
        for pair, told in (
            ((-1, 1), ("never", "below")), ((0, -1), ("never", "below")), ((3, 0), ("never", "stops", 1)),
            ((4, 2), ("never", "stops", 0)), ((0, 1), ("open", comes(SOME, (0, 1), 9)[1])),
        ):
            for call in (hands_word, spelled_word, spelled_paper):
                with self.assertRaises(NotEnded) as caught:
                    call(SOME, pair, 9)
                self.same(caught.exception.value, told)
                self.same(caught.exception.value, comes(SOME, pair, 9))
        ring = Machine("figures 2\nrow 0 1 1 left")
        for call in (hands_word, spelled_word, spelled_paper):
            with self.assertRaises(NotEnded) as caught:
                call(ring, (0, 1), 1)
            self.same(caught.exception.value, ("never", "round", 0, 1))

    def test_all_that_end(self):
        for machine, highest in ((SOME, 40), (THREE, 60), (LONG, 40)):
            found = ending(machine, highest, 30)
            self.assertGreater(len(found), 5)
            for pair in found:
                steps = comes(machine, pair, 30)[1]
                told = hands_word(machine, pair, 30)
                self.same(told, hands(*[goes(machine, place) for place in run(machine, pair, 31)[:-1]]))
                self.assertEqual(len(told), steps)
                self.same(hands_word(machine, pair, max(steps, 1)), told)
                word = letters_freed(backward(told) + moved(pair, 1) + told + (("t", -1),))
                self.same(spelled_word(machine, pair, 30), word)
                self.same(is_empty(machine, word), True)
                paper = spelled_paper(machine, pair, 30)
                self.same(product_word(machine, paper), word)
                self.same(led_by(machine, pair, told), ("led", (0, 0)))
                self.same(run_in(machine, told), run(machine, pair, 31))

    def test_a_run_of_400_steps(self):
        pair = pairs_of(Strip(WIPE), (0, (), (1,) * 398))[0]
        told = hands_word(LONG, pair, 400)
        self.assertEqual(len(told), 400)
        self.same(run_in(LONG, told)[0], pair)
        self.same(is_product(LONG, spelled_word(LONG, pair, 400), spelled_paper(LONG, pair, 400)), True)
        with self.assertRaises(NotEnded) as caught:
            hands_word(LONG, pair, 399)
        self.same(caught.exception.value, comes(LONG, pair, 399))


class LedBy(StrictCase):
    def test_none(self):
        for pair in ((0, 0), (5, -7), (10 ** 40, 1)):
            self.same(led_by(SOME, pair, ()), ("led", pair))

    def test_hands_that_pass(self):
        self.same(led_by(SOME, (2, 1), hands(1)), ("led", (1, 3)))
        self.same(led_by(SOME, (2, 1), hands(1, 2)), ("led", (1, 1)))
        self.same(led_by(SOME, (2, 1), hands(1, 2, 2, 0)), ("led", (0, 0)))
        self.same(led_by(SOME, (10 ** 40, 1), hands(1)), ("led", (5 * 10 ** 39, 3)))

    def test_the_first_one_that_does_not(self):
        self.same(led_by(SOME, (2, 1), hands(0, 2, 2, 0)), ("stays", 0, (2, 1)))
        self.same(led_by(SOME, (2, 1), hands(1, 0, 2, 0)), ("stays", 1, (1, 3)))
        self.same(led_by(SOME, (2, 1), hands(1, 2, 1, 1)), ("stays", 2, (1, 1)))
        self.same(led_by(SOME, (2, 1), hands(1, 2, 2, 1)), ("stays", 3, (1, 0)))
        self.same(led_by(SOME, (2, 1), hands(1, 2, 2, 0, 0)), ("stays", 4, (0, 0)))
        self.same(led_by(SOME, (0, 0), hands(2)), ("stays", 0, (0, 0)))

    def test_below_0(self):
        self.same(led_by(SOME, (-1, 1), hands(2)), ("led", (-3, 0)))
        self.same(led_by(SOME, (-1, 1), hands(2, 0)), ("led", (-8, 0)))
        self.same(led_by(SOME, (-1, 1), hands(2, 0, 0)), ("stays", 2, (-8, 0)))
        self.same(led_by(SOME, (-2, -1), hands(1)), ("led", (-1, -1)))
        self.same(led_by(SOME, (-2, -1), hands(0)), ("stays", 0, (-2, -1)))

    def test_by_what_follows(self):
        for pair, row in itertools.product(itertools.product(range(-5, 6), repeat=2), itertools.product(range(3), repeat=3)):
            here, told = pair, None
            for number, hand in enumerate(row):
                if goes(SOME, here) != hand:
                    told = ("stays", number, here)
                    break
                here = follows(SOME, here)
            self.same(led_by(SOME, pair, hands(*row)), told or ("led", here))


class RunIn(StrictCase):
    def no_run(self, numbers, wanted):
        self.refused_number(NoRun, wanted, run_in, SOME, hands(*numbers))

    def test_of_hands_of_runs(self):
        self.same(run_in(SOME, ()), ((0, 0),))
        self.same(run_in(SOME, hands(0)), ((1, 0), (0, 0)))
        self.same(run_in(SOME, hands(1, 2, 2, 0)), ((2, 1), (1, 3), (1, 1), (1, 0), (0, 0)))

    def test_a_hand_out(self):
        self.no_run((1, 2, 2), 2)
        self.no_run((1, 2, 0), 0)
        self.same(run_in(SOME, hands(2, 0)), ((1, 1), (1, 0), (0, 0)))

    def test_a_hand_more_or_otherwise(self):
        self.no_run((0, 1, 2, 2, 0), 0)
        self.no_run((1, 1, 2, 2, 0), 0)
        self.no_run((1, 1, 2, 0), 1)
        self.no_run((1, 2, 1, 0), 2)
        self.no_run((1, 2, 2, 1), 3)
        self.no_run((1, 2, 2, 0, 2), 4)
        self.no_run((1,), 0)
        self.no_run((2, 2, 2, 2, 1), 4)

    def test_all_short_rows_of_hands(self):
        for many in range(6):
            for row in itertools.product(range(3), repeat=many):
                behind = [(0, 0)]
                while len(behind) <= many:
                    wanted = row[many - len(behind)]
                    found = [pair for pair in backs(SOME, behind[0]) if goes(SOME, pair) == wanted]
                    if not found:
                        break
                    behind.insert(0, found[0])
                if len(behind) == many + 1:
                    self.same(run_in(SOME, hands(*row)), tuple(behind))
                    self.same(hands_word(SOME, behind[0], 9), hands(*row))
                else:
                    self.no_run(row, many - len(behind))

    def test_no_other_hands_lead_to_the_end(self):
        for pair in ending(SOME, 12, 9):
            own = hands_word(SOME, pair, 9)
            for many in range(5):
                for row in itertools.product([(f"h{at}", power) for at in range(3) for power in (1, -1)], repeat=many):
                    if letters_freed(row) == row:
                        word = backward(row) + moved(pair, 1) + row + (("t", -1),)
                        self.same(is_empty(SOME, word), row == own)


class Wrong(StrictCase):
    by_most = (hands_word, spelled_word, spelled_paper)

    def test_no_machine(self):
        for wrong in any_values():
            if not isinstance(wrong, Machine):
                for call in self.by_most:
                    self.refused(NoMachine, wrong, call, wrong, (0, 0), 9)
                    self.refused(NoMachine, wrong, call, wrong, [], 0)
                self.refused(NoMachine, wrong, led_by, wrong, (0, 0), ())
                self.refused(NoMachine, wrong, led_by, wrong, [], None)
                self.refused(NoMachine, wrong, run_in, wrong, ())
                self.refused(NoMachine, wrong, run_in, wrong, None)

    def test_no_pair(self):
        for wrong in any_values() + BAD_PAIRS:
            for call in self.by_most:
                self.refused(BadPair, wrong, call, SOME, wrong, 9)
                self.refused(BadPair, wrong, call, SOME, wrong, 0)
            self.refused(BadPair, wrong, led_by, SOME, wrong, ())
            self.refused(BadPair, wrong, led_by, SOME, wrong, None)

    def test_no_most(self):
        for wrong in BAD_MOSTS:
            for pair in ((0, 0), (2, 1), (-1, 0)):
                for call in self.by_most:
                    self.refused(BadMost, wrong, call, SOME, pair, wrong)

    def test_no_row_of_hands(self):
        of_no_machine = [word for word in BAD_WORDS if word != (("h2", 1),)]
        for wrong in [value for value in any_values() if value != ()] + BAD_HANDS + of_no_machine:
            with self.subTest(value=wrong):
                self.refused(BadWord, wrong, led_by, SOME, (0, 0), wrong)
                self.refused(BadWord, wrong, run_in, SOME, wrong)

    def test_hands_go_by_the_machine(self):
        one = Machine("figures 2\nrow 1 0 0 right")
        self.same(run_in(one, hands(0)), ((1, 0), (0, 0)))
        self.refused(BadWord, wrong := hands(1), run_in, one, wrong)
        self.refused(BadWord, wrong, led_by, one, (1, 0), wrong)
        self.same(led_by(THREE, (2, 2), hands(5)), ("led", (0, 2)))

    def test_by_names(self):
        self.same(hands_word(most=9, pair=(1, 0), machine=SOME), hands(0))
        self.same(spelled_word(most=9, pair=(0, 0), machine=SOME), ())
        self.same(spelled_paper(most=9, pair=(0, 0), machine=SOME), spelled_paper(SOME, (0, 0), 9))
        self.same(led_by(hands=(), pair=(1, 0), machine=SOME), ("led", (1, 0)))
        self.same(run_in(hands=(), machine=SOME), ((0, 0),))

    def test_nothing_is_changed(self):
        small, wrong = Machine(SMALL), [["h0", 1]]
        self.refused(BadWord, wrong, run_in, small, wrong)
        self.refused(BadWord, wrong, led_by, small, (0, 0), wrong)
        self.assertEqual(wrong, [["h0", 1]])
        self.same((small.text, small.figures, small.rows), (SMALL, 2, Machine(SMALL).rows))
        self.same(tower(small, spelled_word(small, (6, 1), 9)), (((), 0, 0),))


if __name__ == "__main__":
    unittest.main()
