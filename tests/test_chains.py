"""Section 13: dents, straight, joined."""

import itertools
import random
import unittest

from emptywords.chains import dents, joined, straight
from emptywords.errors import BadChain, BadMost, BadStanding, NoStrip
from emptywords.strips import Strip, backs, fate, follows, run
from tests.helping import SWING, WIPE, StrictCase, any_values, standings
from tests.test_wrong_inputs import BAD_MOSTS, BAD_STANDINGS

# Its rows over 0 go right for ever; over 1 it stays at one place, to and fro.
STILL = "marks 2\nstates 2\nrow 0 0 0 right 0\nrow 0 1 1 right 1\nrow 1 0 0 left 0\nrow 1 1 1 left 0"
WIDE = "marks 3\nstates 2\nrow 0 0 2 right 1\nrow 0 1 0 left 0\nrow 0 2 1 left end\nrow 1 0 1 left 0\nrow 1 2 0 right 1"
GROW = "marks 2\nstates 1\nrow 0 0 1 right 0"
TEXTS = (WIPE, SWING, STILL, WIDE, GROW)
BLANK = (0, (), ())


def drawn_chain(strip, start, longest, chance):
    """A chain that goes on forth and back as it is drawn."""
    chain = [start]
    while len(chain) < longest:
        after = follows(strip, chain[-1])
        places = list(backs(strip, chain[-1])) + ([after] * 2 if after is not None else [])
        if not places:
            break
        chain.append(chance.choice(places))
    return tuple(chain)


def drawn_chains(text, many, longest, seed):
    strip, chance = Strip(text), random.Random(seed)
    starts = standings(strip, 2)
    return [drawn_chain(strip, chance.choice(starts), chance.randint(1, longest), chance) for _ in range(many)]


def dents_taken_out(chain, chance):
    """What is left if dents go out in whatever sequence is drawn."""
    chain = list(chain)
    while True:
        places = [at for at in range(1, len(chain) - 1) if chain[at - 1] == chain[at + 1]]
        if not places:
            return tuple(chain)
        at = chance.choice(places)
        first = at + chance.choice((-1, 0))
        del chain[first:first + 2]


class Dents(StrictCase):
    wipe = Strip(WIPE)
    places = run(wipe, (0, (), (1, 1, 1, 1)), 9)

    def gives(self, numbers, wanted):
        chain = tuple(self.places[number] for number in numbers)
        self.same(dents(self.wipe, chain), wanted)

    def test_none(self):
        self.gives((0,), ())
        self.gives((0, 1), ())
        self.gives((1, 0), ())
        self.gives((0, 1, 2, 3), ())
        self.gives((4, 3, 2), ())

    def test_one(self):
        self.gives((0, 1, 0), (1,))
        self.gives((1, 0, 1), (1,))
        self.gives((0, 1, 2, 1), (2,))
        self.gives((2, 1, 2, 3), (1,))
        self.gives((0, 1, 2, 3, 2, 1), (3,))

    def test_several_beside_one_another(self):
        self.gives((0, 1, 0, 1), (1, 2))
        self.gives((2, 1, 2, 1, 2, 3), (1, 2, 3))
        self.gives((0, 1, 2, 1, 0, 1, 2), (2, 4))

    def test_the_first_and_the_last_are_none(self):
        self.gives((1, 2, 1, 2, 1), (1, 2, 3))

    def test_one_that_follows_itself(self):
        self.same(follows(Strip(STILL), BLANK), BLANK)
        self.same(dents(Strip(STILL), (BLANK,) * 2), ())
        self.same(dents(Strip(STILL), (BLANK,) * 5), (1, 2, 3))

    def test_many(self):
        for text in TEXTS:
            for chain in drawn_chains(text, 60, 12, 1):
                wanted = [at for at, (one, other) in enumerate(zip(chain, chain[2:]), 1) if one == other]
                self.same(dents(Strip(text), chain), tuple(wanted))


class Straight(StrictCase):
    def test_forth_and_back(self):
        wipe = Strip(WIPE)
        places = run(wipe, (0, (), (1, 1, 1, 1)), 9)
        for numbers, wanted in (((0,), (0,)), ((0, 1), (0, 1)), ((0, 1, 0), (0,)), ((0, 1, 2, 1, 0, 1, 2), (0, 1, 2)), ((2, 1, 2, 3), (2, 3)),
                                ((3, 2, 1, 0, 1, 2), (3, 2)), ((0, 1, 0, 1), (0, 1)), ((0, 1, 2, 3, 2, 1, 0), (0,)),
                                ((1, 0, 1, 2, 3, 2, 3, 4, 3, 2, 1), (1,))):
            chain = tuple(places[number] for number in numbers)
            self.same(straight(wipe, chain), tuple(places[number] for number in wanted))

    def test_along_two_runs(self):
        two = Strip("marks 2\nstates 1\nrow 0 1 0 right 0\nrow 0 0 0 right 0")
        one, other = run(two, (0, (), (1, 1, 1)), 4), run(two, (0, (), (0, 1, 1)), 4)
        self.same((one[0] != other[0], one[1:]), (True, other[1:]))
        self.same(straight(two, one + other[2::-1]), one[:2] + other[:1])
        self.same(straight(two, one + other[2::-1] + other[1:3]), one[:3])

    def test_one_that_follows_itself(self):
        still = Strip(STILL)
        for many in range(1, 12):
            self.same(straight(still, (BLANK,) * many), (BLANK,) * (2 - many % 2))

    def test_round(self):
        swing = Strip(SWING)
        ring = run(swing, BLANK, 4)
        self.same(follows(swing, ring[3]), ring[0])
        self.same(straight(swing, ring * 3), ring * 3)
        self.same(straight(swing, ring * 3 + ring[2::-1]), ring * 2 + ring[:1])
        self.same(straight(swing, ring * 2 + (ring * 2)[-2::-1]), ring[:1])

    def test_there_and_back_by_two_rows(self):
        still = Strip(STILL)
        one = (0, (), (1,))
        other = follows(still, one)
        self.same((follows(still, other), other != one), (one, True))
        self.same(straight(still, (one, other, one, other)), (one, other))
        self.same(straight(still, (one, other, one)), (one,))

    def test_more_than_400(self):
        grow = Strip(GROW)
        places = run(grow, BLANK, 400)
        long = places + places[398:100:-1] + places[102:300]
        self.same(straight(grow, long), places[:300])
        self.same(straight(grow, long + places[298::-1]), places[:1])

    def test_whichever_dents_go_first(self):
        for text in TEXTS:
            for number, chain in enumerate(drawn_chains(text, 60, 25, 2)):
                left = straight(Strip(text), chain)
                for at in range(3):
                    self.same(dents_taken_out(chain, random.Random(number + 1000 * at)), left)

    def test_what_it_always_is(self):
        for text in TEXTS:
            strip = Strip(text)
            for chain in drawn_chains(text, 60, 25, 3):
                left = straight(strip, chain)
                self.same(dents(strip, left), ())
                self.same((left[0], left[-1]), (chain[0], chain[-1]))
                self.same(straight(strip, left), left)
                # Along the run of its first one, and from some on back along that of its last one.
                first, last = run(strip, left[0], 40), run(strip, left[-1], 40)
                splits = [at for at in range(len(left)) if left[:at + 1] == first[:at + 1] and left[:at - 1 if at else None:-1] == last[:len(left) - at]]
                self.assertTrue(splits)


class Joined(StrictCase):
    def gives(self, text, one, other, most, wanted):
        self.same(joined(Strip(text), one, other, most), wanted)

    def test_one_and_the_same(self):
        for text in TEXTS:
            for standing in standings(Strip(text), 2):
                for most in (1, 400):
                    self.gives(text, standing, standing, most, ("meet", 0, 0))

    def test_one_on_the_others_run(self):
        places = run(Strip(WIPE), (0, (), (1, 1, 1)), 9)
        self.gives(WIPE, places[0], places[3], 9, ("meet", 3, 0))
        self.gives(WIPE, places[3], places[0], 9, ("meet", 0, 3))

    def test_just_enough_and_one_too_few(self):
        places = run(Strip(WIPE), (0, (), (1, 1, 1)), 9)
        self.gives(WIPE, places[0], places[3], 3, ("meet", 3, 0))
        self.gives(WIPE, places[0], places[3], 2, ("open",))
        self.gives(WIPE, places[3], places[0], 3, ("meet", 0, 3))
        self.gives(WIPE, places[3], places[0], 2, ("open",))
        self.gives(WIPE, places[0], places[4], 4, ("meet", 4, 0))
        self.gives(GROW, BLANK, run(Strip(GROW), BLANK, 400)[399], 399, ("meet", 399, 0))
        last = follows(Strip(GROW), run(Strip(GROW), BLANK, 400)[399])
        self.gives(GROW, BLANK, last, 400, ("meet", 400, 0))
        self.gives(GROW, last, BLANK, 400, ("meet", 0, 400))
        self.gives(GROW, BLANK, last, 399, ("open",))
        self.gives(GROW, BLANK, follows(Strip(GROW), last), 400, ("open",))

    def test_both_behind(self):
        two = "marks 2\nstates 1\nrow 0 1 0 right 0\nrow 0 0 0 right 0"
        self.gives(two, (0, (), (1, 1)), (0, (), (0, 1)), 9, ("meet", 1, 1))
        self.gives(two, (0, (), (1, 1)), (0, (), (1, 0, 1)), 9, ("meet", 1, 2))
        self.gives(two, (0, (), (1, 0, 1)), (0, (), (1, 1)), 2, ("meet", 2, 1))
        self.gives(two, (0, (), (1, 0, 1)), (0, (), (1, 1)), 1, ("open",))

    def test_apart_and_open(self):
        self.gives(WIPE, (0, (1,), ()), (0, (), (1,)), 400, ("apart",))
        self.gives(WIPE, (0, (1,), ()), (0, (), (1,)), 2, ("apart",))
        self.gives(WIPE, (0, (1,), ()), (0, (), (1,)), 1, ("open",))
        self.gives(WIPE, (0, (), (1,)), (0, (1,), ()), 1, ("open",))
        self.gives(GROW, BLANK, (0, (), (1,)), 400, ("open",))
        self.gives(GROW, (0, (), (1,)), BLANK, 400, ("open",))
        self.gives(GROW, (0, (), (1,)), (0, (1,), (1,)), 1, ("apart",))

    def test_round(self):
        ring = run(Strip(SWING), BLANK, 4)
        self.gives(SWING, ring[0], ring[3], 3, ("meet", 0, 1))
        self.gives(SWING, ring[3], ring[0], 3, ("meet", 0, 3))
        self.gives(SWING, ring[2], ring[1], 9, ("meet", 0, 1))
        for most in (3, 4, 9):
            told = joined(Strip(SWING), BLANK, (0, (1,), ()), most)
            self.assertNotEqual(told[0], "meet")

    def test_the_least_ones(self):
        found = {"meet": 0, "apart": 0, "open": 0}
        for text in TEXTS:
            strip, some = Strip(text), standings(Strip(text), 2)
            for one, other in itertools.product(some, some[::3]):
                for most in (1, 2, 5):
                    runs = [run(strip, place, most + 1) for place in (one, other)]
                    meets = [(i, j) for i, a in enumerate(runs[0]) for j, b in enumerate(runs[1]) if a == b]
                    wanted = ("apart",)
                    if meets:
                        wanted = ("meet",) + min(meets)
                    elif "on" in (fate(strip, one, most)[0], fate(strip, other, most)[0]):
                        wanted = ("open",)
                    self.same(joined(strip, one, other, most), wanted)
                    found[wanted[0]] += 1
        self.assertGreater(min(found.values()), 100)

    def test_the_ends_of_chains_meet(self):
        for text in TEXTS:
            for chain in drawn_chains(text, 40, 20, 4):
                told = joined(Strip(text), chain[0], chain[-1], 40)
                self.same(told[0], "meet")
                places, others = run(Strip(text), chain[0], 41), run(Strip(text), chain[-1], 41)
                self.same(places[told[1]], others[told[2]])
                joint = places[:told[1] + 1] + others[:told[2]][::-1]
                self.same((joint[0], joint[-1]), (chain[0], chain[-1]))
                self.same(straight(Strip(text), joint)[-1], chain[-1])


class Wrong(StrictCase):
    wipe = Strip(WIPE)

    def bad(self, value):
        with self.subTest(value=value):
            self.refused(BadChain, value, dents, self.wipe, value)
            self.refused(BadChain, value, straight, self.wipe, value)
            self.refused(BadChain, value, straight, chain=value, strip=self.wipe)

    def test_no_chain(self):
        for wrong in any_values():
            self.bad(wrong)
        places = run(self.wipe, (0, (), (1, 1)), 9)
        for wrong in ([BLANK], BLANK, places[0], list(places), (list(places[0]),), (places,), {0: BLANK}, places[::2], places[:1] + places[2:],
                      (BLANK, BLANK), places + (places[0],), places[:2] + places[:1] + places[3:], places[:1] + ((0, (1,), (1,)),)):
            self.bad(wrong)
        self.same(dents(self.wipe, places), ())

    def test_a_standing_that_is_none(self):
        places = run(self.wipe, (0, (), (1, 1)), 9)
        for wrong in BAD_STANDINGS:
            self.bad((wrong,))
            self.bad(places[:1] + (wrong,))
            self.bad((wrong,) + places[:1])
            self.bad(places + (wrong,) + places)

    def test_chains_go_by_the_strip(self):
        three = Strip("marks 3\nstates 1\nrow 0 2 1 right 0")
        chain = ((0, (), (2,)), (0, (1,), ()))
        self.same(straight(three, chain + chain[:1]), chain[:1])
        self.bad(chain)

    def test_no_strip(self):
        for wrong in any_values():
            if not isinstance(wrong, Strip):
                for call in (dents, straight):
                    self.refused(NoStrip, wrong, call, wrong, (BLANK,))
                    self.refused(NoStrip, wrong, call, wrong, None)
                self.refused(NoStrip, wrong, joined, wrong, BLANK, BLANK, 9)
                self.refused(NoStrip, wrong, joined, wrong, None, [], 0)

    def test_no_standing(self):
        for wrong in any_values() + BAD_STANDINGS:
            self.refused(BadStanding, wrong, joined, self.wipe, wrong, BLANK, 9)
            self.refused(BadStanding, wrong, joined, self.wipe, wrong, [], 0)
            self.refused(BadStanding, wrong, joined, self.wipe, BLANK, wrong, 9)
            self.refused(BadStanding, wrong, joined, self.wipe, BLANK, wrong, 0)

    def test_no_most(self):
        for wrong in BAD_MOSTS:
            for one, other in ((BLANK, BLANK), (BLANK, (0, (1,), ())), ((1, (), ()), BLANK)):
                self.refused(BadMost, wrong, joined, self.wipe, one, other, wrong)

    def test_by_names(self):
        chain = run(self.wipe, (0, (), (1, 1)), 2)
        self.same(dents(chain=chain + chain[:1], strip=self.wipe), (1,))
        self.same(straight(chain=chain + chain[:1], strip=self.wipe), chain[:1])
        self.same(joined(most=1, other=chain[1], one=chain[0], strip=self.wipe), ("meet", 1, 0))

    def test_nothing_is_changed(self):
        wrong = [[0, [], []]]
        self.refused(BadChain, wrong, straight, self.wipe, wrong)
        self.assertEqual(wrong, [[0, [], []]])


if __name__ == "__main__":
    unittest.main()
