"""Section 11: linked and linking_paper."""

import itertools
import unittest

from emptywords.books import is_product, product_word
from emptywords.errors import BadMost, BadPair, NoMachine, NotEnded
from emptywords.hands import is_empty
from emptywords.pairs import Machine, goes, run
from emptywords.spelling import hands_word, linked, linking_paper
from emptywords.words import moved, read_word
from tests.helping import SMALL, StrictCase, any_values, backward, letters_freed
from tests.test_wrong_inputs import BAD_MOSTS, BAD_PAIRS

SOME = Machine("figures 2\nrow 1 0 0 right\nrow 0 1 3 left\nrow 1 1 1 right")
DOWN = Machine("figures 2\nrow 1 0 0 right\nrow 0 1 0 left")
# Both rows lead back at once; both rows lead there and back.
ROUND = Machine("figures 2\nrow 0 1 1 left\nrow 1 0 1 right")
LOOP = Machine("figures 2\nrow 0 1 1 right\nrow 1 1 3 left")
RING = Machine("figures 2\nrow 0 1 1 left\nrow 1 0 2 right\nrow 1 1 0 left")


def by_the_document(machine, one, other, most):
    runs = [run(machine, pair, most) for pair in (one, other)]
    for place in runs[0]:
        if place in runs[1]:
            words = [tuple((f"h{goes(machine, on)}", 1) for on in places[:places.index(place)]) for places in runs]
            return ("meet", words[0] + backward(words[1]))
    known = all(len(places) < most or len(places) > len(set(places)) for places in runs)
    return ("apart",) if known else ("open",)


class Linked(StrictCase):
    def gives(self, one, other, most, wanted, machine=SOME):
        if isinstance(wanted, str):
            wanted = ("meet", read_word(machine, wanted))
        self.same(linked(machine, one, other, most), wanted)
        self.same(by_the_document(machine, one, other, most), wanted)

    def test_one_and_the_same(self):
        for pair in ((0, 0), (2, 1), (3, 0), (-7, 5), (10 ** 40, 1)):
            for most in (1, 2, 400):
                self.gives(pair, pair, most, "")

    def test_one_on_the_others_run(self):
        self.gives((2, 1), (0, 0), 5, "h1 1 h2 1 h2 1 h0 1")
        self.gives((0, 0), (2, 1), 5, "h0 -1 h2 -1 h2 -1 h1 -1")
        self.gives((2, 1), (1, 1), 9, "h1 1 h2 1")
        self.gives((1, 3), (1, 0), 9, "h2 1 h2 1")

    def test_just_at_the_bound_and_one_below(self):
        self.gives((2, 1), (0, 0), 4, ("open",))
        self.gives((0, 0), (2, 1), 4, ("open",))
        self.gives((2, 1), (1, 1), 3, "h1 1 h2 1")
        self.gives((2, 1), (1, 1), 2, ("open",))
        self.gives((2, 1), (1, 7), 2, "h1 1 h2 -1")
        self.gives((2, 1), (1, 7), 1, ("open",))

    def test_runs_that_meet_at_the_first_a_later_and_the_last_place(self):
        self.gives((1, 7), (2, 1), 9, "h2 1 h1 -1")
        self.gives((2, 1), (1, 7), 9, "h1 1 h2 -1")
        self.gives((2, 7), (4, 1), 3, "h1 1 h2 1 h1 -1 h1 -1")
        self.gives((2, 7), (4, 1), 2, ("open",))
        self.gives((2, 7), (3, 2), 9, "h1 1 h2 1 h1 -1 h1 -1 h0 -1")
        self.gives((1, 0), (0, 1), 2, "h0 1 h1 -1", DOWN)
        self.gives((0, 1), (1, 0), 400, "h1 1 h0 -1", DOWN)
        self.gives((1, 0), (0, 1), 1, ("open",), DOWN)

    def test_runs_that_stop_apart(self):
        self.gives((3, 0), (2, 0), 9, ("apart",))
        self.gives((2, 0), (3, 0), 9, ("apart",))
        self.gives((3, 0), (2, 0), 3, ("apart",))
        self.gives((3, 0), (2, 0), 2, ("open",))
        self.gives((2, 0), (4, 0), 2, ("apart",))
        self.gives((2, 0), (4, 0), 1, ("open",))

    def test_runs_that_go_round(self):
        self.gives((0, 1), (1, 0), 2, ("apart",), ROUND)
        self.gives((0, 1), (1, 0), 1, ("open",), ROUND)
        self.gives((0, 1), (0, 2), 2, ("apart",), ROUND)
        self.gives((2, 3), (5, 1), 2, "h1 -1", LOOP)
        self.gives((5, 1), (2, 3), 400, "h0 -1", LOOP)
        self.gives((2, 3), (5, 1), 1, ("open",), LOOP)

    def test_runs_that_are_open(self):
        self.gives((0, 1), (2, 0), 9, ("open",))
        self.gives((2, 0), (0, 1), 9, ("open",))
        self.gives((0, 1), (2, 0), 400, ("open",))

    def test_below_0(self):
        self.gives((-1, 1), (-3, 0), 9, "h2 1")
        self.gives((-1, 1), (2, 1), 9, by_the_document(SOME, (-1, 1), (2, 1), 9))

    def test_many(self):
        found = {"meet": 0, "apart": 0, "open": 0}
        pairs = list(itertools.product(range(-2, 6), repeat=2))
        for machine, most in ((SOME, 6), (RING, 4), (RING, 2), (Machine(SMALL), 5)):
            for one, other in itertools.product(pairs, pairs):
                told = linked(machine, one, other, most)
                self.same(told, by_the_document(machine, one, other, most))
                found[told[0]] += 1
                if told[0] == "meet":
                    self.same(letters_freed(told[1]), told[1])
        self.assertGreater(min(found.values()), 300)


class LinkingPaper(StrictCase):
    def test_its_word(self):
        many = 0
        pairs = list(itertools.product(range(-2, 5), repeat=2))
        for machine, most in ((SOME, 6), (RING, 4), (Machine(SMALL), 5)):
            for one, other in itertools.product(pairs, pairs[::3]):
                told = linked(machine, one, other, most)
                if told[0] == "meet":
                    word = backward(told[1]) + moved(one, 1) + told[1] + moved(other, -1)
                    paper = linking_paper(machine, one, other, most)
                    self.same(product_word(machine, paper), letters_freed(word))
                    self.same(is_product(machine, word, paper), True)
                    self.same(is_empty(machine, word), True)
                    many += 1
                else:
                    with self.assertRaises(NotEnded) as caught:
                        linking_paper(machine, one, other, most)
                    self.same(caught.exception.value, told)
        self.assertGreater(many, 100)

    def test_of_one_and_the_same(self):
        self.same(product_word(SOME, linking_paper(SOME, (2, -1), (2, -1), 1)), ())

    def test_as_the_word_of_the_run(self):
        self.same(linked(SOME, (2, 1), (0, 0), 9), ("meet", hands_word(SOME, (2, 1), 9)))


class Wrong(StrictCase):
    calls = (linked, linking_paper)

    def test_no_machine(self):
        for wrong in any_values():
            if not isinstance(wrong, Machine):
                for call in self.calls:
                    self.refused(NoMachine, wrong, call, wrong, (0, 0), (0, 0), 9)
                    self.refused(NoMachine, wrong, call, wrong, None, [], 0)

    def test_no_pair(self):
        for wrong in any_values() + BAD_PAIRS:
            for call in self.calls:
                self.refused(BadPair, wrong, call, SOME, wrong, (0, 0), 9)
                self.refused(BadPair, wrong, call, SOME, wrong, [1, 1], 0)
                self.refused(BadPair, wrong, call, SOME, (0, 0), wrong, 9)
                self.refused(BadPair, wrong, call, SOME, (0, 0), wrong, 0)

    def test_no_most(self):
        for wrong in BAD_MOSTS:
            for call in self.calls:
                self.refused(BadMost, wrong, call, SOME, (0, 0), (0, 0), wrong)
                self.refused(BadMost, wrong, call, SOME, (3, 0), (2, 0), wrong)

    def test_by_names(self):
        self.same(linked(most=9, other=(1, 1), one=(2, 1), machine=SOME), ("meet", (("h1", 1), ("h2", 1))))
        self.same(linking_paper(most=9, other=(1, 1), one=(2, 1), machine=SOME), linking_paper(SOME, (2, 1), (1, 1), 9))


if __name__ == "__main__":
    unittest.main()
