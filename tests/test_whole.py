"""The whole program: one strip through all of it; what section 3 promises over all parts."""

import inspect
import unittest

from emptywords import benches, books, chains, desk, ground, hands, journals, leading, pairs, spelling, strips, top, words
from emptywords.benches import Bench
from emptywords.books import is_product, product_word
from emptywords.chains import dents, joined, straight
from emptywords.desk import Desk
from emptywords.hands import alike, is_empty, tower, why
from emptywords.journals import journal, read_journal
from emptywords.leading import ends_with, led, pairs_of, run_led, standing_of
from emptywords.pairs import comes, run as run_pairs
from emptywords.spelling import hands_word, led_by, linked, linking_paper, run_in, spelled_paper, spelled_word
from emptywords.strips import Strip, backs, fate, follows, run
from emptywords.top import lot, shows_top_why, top_why, verdict, word_of_pair
from emptywords.words import freed, moved, undone, word_text
from tests.helping import StrictCase

# It goes right to the end of the ones and back to the left, wiping; then it ends.
SWEEP = ("marks 2\nstates 3\nrow 0 1 1 right 0\nrow 0 0 0 left 1\nrow 1 1 0 left 1\nrow 1 0 0 right 2\nrow 2 0 0 right end")
CLEAN = [(0, (), (1,) * many) for many in range(6)] + [(1, (1, 1), (1,)), (2, (), ()), (3, (), ())]
NOT_CLEAN = [(0, (0, 1), (1,)), (2, (), (1,)), (3, (1,), ()), (0, (), (1, 0, 1)), (2, (), (0, 1))]
MODULES = (benches, books, chains, desk, ground, hands, journals, leading, pairs, spelling, strips, top, words)


class OneStrip(StrictCase):
    def setUp(self):
        self.strip = Strip(SWEEP)
        self.machine = led(self.strip)

    def test_runs_and_ends(self):
        for standing in CLEAN + NOT_CLEAN:
            places, pairs_led = run(self.strip, standing, 60), run_led(self.strip, standing, 60)
            for place, pair in zip(places, pairs_led):
                self.same(standing_of(self.strip, pair), place)
                self.assertIn(pair, pairs_of(self.strip, place))
            told, ended = fate(self.strip, standing, 60), ends_with(self.strip, standing, 60)
            self.same(ended, comes(self.machine, pairs_led[0], 60))
            self.same(told[0] == "clean", standing in CLEAN)
            if standing in CLEAN:
                self.same(ended, ("ends", told[1] + 1))
            else:
                self.same((ended[0], ended[1]), ("never", "stops"))

    def test_words_of_pairs(self):
        for standing in CLEAN + NOT_CLEAN:
            for pair in pairs_of(self.strip, standing):
                word = word_of_pair(pair)
                steps = fate(self.strip, standing, 60)[1] + 1
                self.same(verdict(self.machine, word, 60), ("empty",) if standing in CLEAN else ("not",))
                if standing in CLEAN and steps > 1:
                    self.same(verdict(self.machine, word, steps), ("empty",))
                    self.same(verdict(self.machine, word, steps - 1), ("open", pair))
                told = top_why(self.machine, word, 60)
                self.same(shows_top_why(self.machine, word, 60, told), True)
                if standing in CLEAN:
                    self.same(product_word(self.machine, told[1]), freed(self.machine, word))
                self.same(lot(self.machine, moved(pair, 3), 60)[0], "in" if standing in CLEAN else "out")

    def test_hands_of_runs(self):
        for standing in CLEAN:
            pair = pairs_of(self.strip, standing)[0]
            own = hands_word(self.machine, pair, 60)
            self.same(run_in(self.machine, own), run_pairs(self.machine, pair, 60))
            self.same(led_by(self.machine, pair, own), ("led", (0, 0)))
            word = spelled_word(self.machine, pair, 60)
            self.same(is_product(self.machine, word, spelled_paper(self.machine, pair, 60)), True)
            self.same(is_empty(self.machine, word), True)
            self.same(alike(self.machine, moved(pair, 1), own + (("t", 1),) + undone(self.machine, own)), True)

    def test_chains_and_links(self):
        start = CLEAN[4]
        places = run(self.strip, start, 60)
        for standing in CLEAN + NOT_CLEAN + list(places):
            for other in (start, CLEAN[1], NOT_CLEAN[0]):
                told = joined(self.strip, standing, other, 60)
                self.assertIn(told[0], ("meet", "apart"))
                # Where the strip's runs meet, so do those of the PAIRS, or both come clean to (0, 0).
                one_pair, other_pair = pairs_of(self.strip, standing)[0], pairs_of(self.strip, other)[0]
                link = linked(self.machine, one_pair, other_pair, 60)
                if told[0] == "meet":
                    chain = run(self.strip, standing, told[1] + 1) + run(self.strip, other, told[2] + 1)[-2::-1]
                    self.same(straight(self.strip, chain), chain)
                    detour = chain + chain[-2::-1] + chain[1:]
                    self.same(dents(self.strip, detour) == (), len(chain) == 1)
                    self.same(straight(self.strip, detour), chain)
                if link[0] == "meet":
                    word = undone(self.machine, link[1]) + moved(one_pair, 1) + link[1] + undone(self.machine, moved(other_pair, 1))
                    self.same(is_product(self.machine, word, linking_paper(self.machine, one_pair, other_pair, 60)), True)
                    self.same(tower(self.machine, word), (((), 0, 0),))
                else:
                    self.same(fate(self.strip, standing, 60)[0] == "clean" and fate(self.strip, other, 60)[0] == "clean", False)

    def test_back_from_the_end(self):
        standing, seen = (3, (), ()), 0
        while seen < 12:
            for place in backs(self.strip, standing):
                self.same(follows(self.strip, place), standing)
            standing, seen = backs(self.strip, standing)[-1], seen + 1
        self.same(fate(self.strip, standing, 60), ("clean", 12))
        self.same(verdict(self.machine, word_of_pair(pairs_of(self.strip, standing)[0]), 13), ("empty",))

    def test_at_a_bench_and_a_desk(self):
        pair = pairs_of(self.strip, CLEAN[2])[0]
        word, bench = word_of_pair(pair), Bench(self.machine.text)
        bench.begin(word)
        # Each part of the paper is put in, undone, from the first one on: so nothing is left.
        for mover, row, sign in top_why(self.machine, word, 60)[1]:
            self.same(bench.verdict(60), ("empty",))
            ahead = freed(self.machine, mover)
            bench.begin(undone(self.machine, ahead) + bench.word + ahead)
            bench.exchange(0, 0, row, -sign)
            bench.begin(ahead + bench.word + undone(self.machine, ahead))
        self.same((bench.word, bench.verdict(1)), ((), ("empty",)))
        text = journal(bench)
        self.assertTrue(read_journal(text) == bench)
        desk_there = Desk(text)
        self.same([desk_there.say(line) for line in ("word", "verdict 1", "undo", "verdict 60")], ["none", "empty", "done", "empty"])
        self.same(desk_there.say("begin " + word_text(self.machine, word)), "done")
        self.same([desk_there.say("verdict 60"), desk_there.say("verdict 1")], ["empty", f"open {pair[0]} {pair[1]}"])


class WholeProgram(StrictCase):
    def test_looks_named_shows(self):
        names = sorted(name for module in MODULES for name in vars(module) if name.startswith("shows_") and vars(module)[name].__module__ == module.__name__)
        self.assertEqual(names, ["shows_ground_paper", "shows_lot", "shows_top_why", "shows_why"])
        for module in MODULES:
            for name, look in vars(module).items():
                if name.startswith("shows_") and look.__module__ == module.__name__:
                    other = vars(module)[name.removeprefix("shows_")]
                    self.assertEqual(list(inspect.signature(look).parameters), [*inspect.signature(other).parameters, "value"])

    def test_a_bench_tells_what_functions_tell(self):
        strip = Strip(SWEEP)
        machine, bench = led(strip), Bench(led(strip).text)
        for standing in CLEAN[:3] + NOT_CLEAN[:2]:
            word = word_of_pair(pairs_of(strip, standing)[1])
            bench.begin(word)
            self.same(bench.word, freed(machine, word))
            for most in (1, 30):
                self.same(bench.verdict(most), verdict(machine, word, most))
            row = ("kt", 2)
            bench.exchange(3, 0, row, -1)
            self.same(bench.word, books.exchanged(machine, word, (3, 0, row, -1)))

    def test_what_is_told_without_k_is_told_with_it(self):
        machine = led(Strip(SWEEP))
        for text in ("x 1 y 1 x -1 y -1", "h0 -1 x 6 h0 1 x -6", "t 1 h3 1", "h1 1 h1 -1", "x 2"):
            word = words.read_word(machine, text)
            self.same(verdict(machine, word, 1)[0], why(machine, word)[0])
            self.same(top_why(machine, word, 1)[0], why(machine, word)[0])


if __name__ == "__main__":
    unittest.main()
