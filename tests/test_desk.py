"""Section 14: Desk."""

import random
import unittest

from emptywords.benches import Bench
from emptywords.books import singles
from emptywords.desk import Desk
from emptywords.errors import BadExchange, BadJournal, BadMost, BadTask, BadWord, NothingToRedo, NothingToUndo
from emptywords.journals import journal, read_journal
from emptywords.words import word_text
from tests.helping import StrictCase, any_values
from tests.test_benches import TWO, all_of, worked

HEAD = TWO + "\ndeeds"


class Made(StrictCase):
    def test_its_bench(self):
        text = HEAD + "\nbegin x 2\nexchange 0 1 1 xy 1 1"
        desk = Desk(text)
        self.assertIs(type(desk.bench), Bench)
        self.assertTrue(desk.bench == read_journal(text))
        self.same(journal(Desk(text=text).bench), text)

    def test_no_journal(self):
        for wrong in any_values():
            if not isinstance(wrong, str):
                self.refused_number(BadJournal, 0, Desk, wrong)
        for text, number in ((None, 0), (7, 0), (Bench(TWO), 0), ("", 2), (TWO, 4), ("deeds", 1), ("figures 2\ndeeds", 2), (HEAD + "\nbegin x", 5), (HEAD + "\n", 5)):
            self.refused_number(BadJournal, number, Desk, text)

    def test_the_very_bench(self):
        desk = Desk(HEAD)
        bench = desk.bench
        desk.say("begin x 2")
        self.assertIs(desk.bench, bench)
        self.same(bench.word, (("x", 2),))
        bench.begin((("t", 5),))
        self.same(desk.say("word"), "t 5")
        bench.undo()
        self.same(desk.say("word"), "x 2")
        self.same(bench.tried(lambda held: [held.undo(), desk.say("word")]), [None, "none"])
        self.same(desk.say("word"), "x 2")


class Said(StrictCase):
    def each(self, desk, *lines_and_answers):
        for line, answer in lines_and_answers:
            with self.subTest(line):
                self.same(desk.say(line), answer)

    def test_words(self):
        self.each(Desk(HEAD), ("word", "none"), ("beginning", "none"), ("begin x 1 x 1 h0 1 h0 -1 k -1", "done"), ("word", "x 2 k -1"),
                  ("beginning", "x 2 k -1"), ("exchange 0 1 1 kh 1", "done"), ("word", "x 1 k -1 h1 1 k 1 h1 -1 x 1 k -1"), ("beginning", "x 2 k -1"),
                  ("begin", "done"), ("word", "none"), ("beginning", "none"), ("exchange 0 0 1 kt 1", "done"), ("word", "k -1 t 1 k 1 t -1"), ("beginning", "none"))

    def test_undo_and_redo(self):
        desk = Desk(HEAD + "\nbegin x 2")
        self.each(desk, ("undo", "done"), ("word", "none"), ("redo", "done"), ("word", "x 2"), ("exchange 1 0 -1 kt 2", "done"), ("undo", "done"), ("word", "x 2"))
        self.same(desk.bench.deeds, 1)
        self.each(desk, ("undo", "done"), ("begin t 1", "done"))
        self.refused(NothingToRedo, None, desk.say, "redo")
        self.each(desk, ("undo", "done"))
        self.refused(NothingToUndo, None, desk.say, "undo")

    def test_verdicts(self):
        desk = Desk(HEAD)
        self.each(desk, ("verdict 1", "empty"), ("begin x 1", "done"), ("verdict 400", "not"))
        # Of row 1: (0, 1) becomes (1, 0), and that (0, 0).
        self.each(desk, ("begin k -1 y -1 t 1 y 1 k 1 y -1 t -1 y 1", "done"), ("verdict 1", "open 0 1"), ("verdict 2", "empty"), ("verdict 9", "empty"))
        self.each(desk, ("begin k 1 y -10 t 1 y 10 k -1", "done"), ("verdict 9", "not"))
        big = "1" + "0" * 4999 + "3"
        self.each(desk, (f"begin k 1 x -{big} t 1 x {big} k -1", "done"), ("verdict 1", f"open {big} 0"))

    def test_singles(self):
        desk = Desk(HEAD + "\nbegin x 2")
        self.each(desk, ("singles", "0"), ("exchange 0 0 1 xy 3 -4", "done"), ("singles", "12"), ("exchange 0 0 1 kh 1", "done"), ("singles", "13"),
                  ("undo", "done"), ("singles", "12"), ("begin", "done"), ("singles", "0"), ("exchange 0 0 -1 t 1 -7", "done"), ("singles", "7"))
        figures = "9" * 5000
        self.each(desk, (f"exchange 0 0 1 kt {figures}", "done"), ("singles", "1" + "0" * 4999 + "6"))

    def test_what_the_bench_raises(self):
        desk = Desk(HEAD + "\nbegin x 2\nexchange 0 1 1 kt 1")
        desk.say("undo")
        ahead = all_of(desk.bench)
        for line, number in (("verdict 0", 0), ("verdict 401", 401), ("verdict -5", -5), ("verdict 100000000000000000000", 10 ** 20)):
            self.refused_number(BadMost, number, desk.say, line)
        for line, value in (("begin z 1", (("z", 1),)), ("begin x 0", (("x", 0),)), ("begin x 1 h2 -1", (("x", 1), ("h2", -1))), ("begin 1 1", (("1", 1),))):
            self.refused_number(BadWord, value, desk.say, line)
        for line, value in (("exchange 2 0 1 xy 1 1", (2, 0, ("xy", 1, 1), 1)), ("exchange 0 2 -1 kt 1", (0, 2, ("kt", 1), -1)), ("exchange 0 0 0 kt 1", (0, 0, ("kt", 1), 0)),
                            ("exchange 0 0 1 xy 1", (0, 0, ("xy", 1), 1)), ("exchange 0 0 1 xy 1 2 3", (0, 0, ("xy", 1, 2, 3), 1)), ("exchange 0 0 1 7", (0, 0, ("7",), 1)),
                            ("exchange 0 0 1 kh 2", (0, 0, ("kh", 2), 1))):
            self.refused_number(BadExchange, value, desk.say, line)
        self.same(all_of(desk.bench), ahead)

    def test_no_task(self):
        desk = Desk(HEAD + "\nbegin x 2")
        desk.say("undo")
        ahead = all_of(desk.bench)
        for wrong in any_values() + ["begin\n", "\nbegin", "word\n", "word\nword", "begin x 1\nbegin x 2", "undo\n", "verdict 9\n", "singles\n", "\n",
                                     "Word", "WORD", " word", "word ", "words", "word 1", "beginning ", "beginning x 1", "undo ", " undo", "undo 1", "redo 1", "Undo",
                                     "verdict", "verdict ", "verdict x", "verdict 01", "verdict +1", "verdict -0", "verdict  1", "verdict 1 ", " verdict 1", "verdict 1 1",
                                     "verdict 1.0", "singles ", "singles 1", "Singles", "deeds", "journal", "none", "done", "keep", "copy", "product",
                                     "begin x", "begin x 01", "begin x +1", "begin x -0", "begin  x 1", "begin x 1 ", " begin", "begin ", "exchange 0 0 1", "exchange",
                                     "exchange 0 0 1 xy 1 -0", "exchange 0 0 1 xy 1 a", "exchange 0 0 01 xy 1 1", "exchange 0  0 1 xy 1 1", "begin  1", "begin x 1  2", "exchange 0 0 1 ", "exchange 0 0 1  1",
                                     "begin x\ny 1", "exchange 0 0 1 x\ny", "exchange 0 0 1 x\ny 1 1"]:
            with self.subTest(wrong):
                self.refused(BadTask, wrong, desk.say, wrong)
        self.same(all_of(desk.bench), ahead)
        self.same(desk.say("redo"), "done")

    def test_by_name(self):
        self.same(Desk(HEAD).say(line="word"), "none")

    def test_as_the_bench_tells(self):
        chance = random.Random(9)
        for deeds in range(40):
            bench = worked(chance, deeds)
            desk = Desk(journal(bench))
            for line, word in (("word", bench.word), ("beginning", bench.beginning)):
                self.same(desk.say(line), word_text(bench.machine, word) or "none")
            self.same(desk.say("singles"), str(singles(bench.machine, bench.product())))
            told = bench.verdict(5)
            self.same(desk.say("verdict 5"), f"open {told[1][0]} {told[1][1]}" if told[0] == "open" else told[0])
            lines = journal(bench).split("\n")[4:]
            other = Desk(HEAD)
            self.same([other.say(line) for line in lines], ["done"] * len(lines))
            self.assertTrue(other.bench == bench)


if __name__ == "__main__":
    unittest.main()
