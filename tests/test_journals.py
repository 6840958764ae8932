"""Section 14: journal and read_journal."""

import random
import unittest

from emptywords.benches import Bench
from emptywords.errors import BadJournal
from emptywords.journals import journal, read_journal
from emptywords.pairs import Machine
from emptywords.words import read_word
from tests.helping import StrictCase, any_values
from tests.test_benches import RING, TURN, TWO, all_of, worked

HEAD = TWO + "\ndeeds"


class Journal(StrictCase):
    def test_without_deeds(self):
        self.same(journal(Bench(TWO)), HEAD)
        self.same(journal(bench=Bench("figures 2\nrow 1 0 0 right")), "figures 2\nrow 1 0 0 right\ndeeds")

    def test_begin(self):
        bench = Bench(TWO)
        bench.begin(())
        bench.begin(RING)
        bench.begin((("x", 1), ("x", 1), ("h0", 1), ("h0", -1), ("k", 1), ("t", -12)))
        self.same(journal(bench), HEAD + "\nbegin\nbegin x 2 y 1 x -2 y -1\nbegin x 1 x 1 h0 1 h0 -1 k 1 t -12")

    def test_exchange(self):
        bench, lines = Bench(TWO), [HEAD, "begin x 2 y 1 x -2 y -1"]
        bench.begin(RING)
        for at, cut, row, sign, line in (
            (0, 0, ("xy", 3, -12), 1, "exchange 0 0 1 xy 3 -12"), (0, 2, ("x", 0, -1), -1, "exchange 0 2 -1 x 0 -1"),
            (1, 0, ("y", 1, 20), 1, "exchange 1 0 1 y 1 20"), (2, 0, ("t", 1, 7), -1, "exchange 2 0 -1 t 1 7"),
            (0, 0, ("kt", -5), 1, "exchange 0 0 1 kt -5"), (0, 0, ("kh", 1), -1, "exchange 0 0 -1 kh 1"),
        ):
            bench.exchange(at, cut, row, sign)
            lines.append(line)
            self.same(journal(bench), "\n".join(lines))
        bench.begin((("y", -5),))
        bench.exchange(0, -4, ("kh", 0), 1)
        self.same(journal(bench), "\n".join(lines + ["begin y -5", "exchange 0 -4 1 kh 0"]))

    def test_what_was_undone_is_not_in_it(self):
        bench = Bench(TWO)
        bench.begin(RING)
        bench.exchange(0, 0, TURN, 1)
        bench.undo()
        self.same(journal(bench), HEAD + "\nbegin x 2 y 1 x -2 y -1")
        bench.redo()
        self.same(journal(bench), HEAD + "\nbegin x 2 y 1 x -2 y -1\nexchange 0 0 1 xy 1 1")
        bench.tried(lambda held: held.begin(()))
        bench.undo()
        bench.undo()
        self.same(journal(bench), HEAD)

    def test_many_figures(self):
        bench, big = Bench(TWO), 10 ** 5000 + 1
        bench.begin((("x", big),))
        bench.exchange(0, big - 1, ("kt", -big), 1)
        figures = "1" + "0" * 4999 + "1"
        self.same(journal(bench), HEAD + f"\nbegin x {figures}\nexchange 0 1{'0' * 5000} 1 kt -{figures}")
        self.assertTrue(read_journal(journal(bench)) == bench)

    def test_read_back(self):
        chance = random.Random(8)
        for deeds in range(80):
            bench = worked(chance, deeds)
            text = journal(bench)
            other = read_journal(text)
            self.assertIs(type(other), Bench)
            self.same(journal(other), text)
            self.assertTrue(other == bench)
            self.same((other.beginning, other.word, other.deeds, len(other), other.product()),
                      (bench.beginning, bench.word, bench.deeds, len(bench), bench.product()))
            while True:
                try:
                    bench.redo()
                except ValueError:
                    break
            while bench.deeds > other.deeds:
                bench.undo()
            bench.begin(())
            bench.undo()
            other.begin(())
            other.undo()
            self.same(all_of(other), all_of(bench))


class ReadJournal(StrictCase):
    def bad(self, text, number):
        with self.subTest(text):
            self.refused_number(BadJournal, number, read_journal, text)

    def good(self, lines):
        self.same(journal(read_journal(text=HEAD + "\n" + lines)), HEAD + "\n" + lines)

    def test_no_string(self):
        for wrong in any_values():
            if not isinstance(wrong, str):
                self.bad(wrong, 0)

    def test_without_deeds(self):
        for text, number in (("", 2), ("\n", 3), (TWO, 4), ("a\nb\nc\nd", 5), ("figures 1\nbegin", 3), (TWO + "\ndeeds ", 5), (TWO + "\n deeds", 5),
                             (TWO + "\nDeeds", 5), (TWO + "\ndeeds x", 5), ("deed", 2)):
            self.bad(text, number)

    def test_no_line_ahead(self):
        for text in ("deeds", "deeds\nbegin", "deeds\n" + HEAD, "deeds\ndeeds"):
            self.bad(text, 1)

    def test_each_line_of_the_machine(self):
        for text, number in (
            ("figures 1\nrow 1 0 0 right", 1), ("\nrow 1 0 0 right", 1), ("figures 2", 2), ("figures 2\n", 2), ("figures 2\nrow 0 0 0 right", 2),
            ("figures 2\nrow 1 0 0 right\nrow 1 0 1 left", 3), ("figures 2\nrow 1 0 0 right\n", 3), ("figures 2\nrow 1 0 0 right\nbegin", 3),
            ("figures 2\nrow 1 0 0 right\nrow 0 1 1 left\nrow 1 1 4 left", 4), ("begin\nfigures 2\nrow 1 0 0 right", 1), ("", 1),
        ):
            for deeds in ("", "\nbegin", "\nno deed", "\ndeeds"):
                self.bad(text + "\ndeeds" + deeds, number)

    def test_the_first_line_behind(self):
        for lines, number in (("no deed", 5), ("begin\nno deed\nbegin", 6), ("begin\nbegin\nbegin x 0", 7), ("begin x 1\nexchange 2 0 1 kt 1\n", 6),
                              ("deeds", 5), ("begin\ndeeds\nbegin", 6), ("", 5), ("begin\n", 6), ("begin\n\nbegin", 6), ("row 1 1 0 left", 5),
                              ("undo", 5), ("begin\nundo", 6), ("word", 5), ("none", 5)):
            self.bad(HEAD + "\n" + lines, number)

    def test_lines_that_have_no_form(self):
        for line in (
            "Begin", "begins", "beginx 1", "begin x", "begin x 1 y", "begin x 1 y 1 t", "begin 1 x", "begin x one", "begin x y", "begin  x 1", "begin x  1",
            "begin x 1 ", " begin x 1", "begin ", " begin", " ", "begin x 01", "begin x +1", "begin x -0", "begin x -01", "begin x 1.0", "begin x 1_0",
            "begin x 0x1", "begin x --1", "begin x -", "begin x 1 y +2", "exchange", "exchange 0", "exchange 0 0", "exchange 0 0 1", "exchange 0 0 xy 1",
            "exchange 0 0 1 xy 1 1 ", "exchange 0 0 1 xy  1 1", "exchange  0 0 1 xy 1 1", "exchange 00 0 1 xy 1 1", "exchange 0 +0 1 xy 1 1",
            "exchange 0 -0 1 xy 1 1", "exchange 0 0 +1 xy 1 1", "exchange 0 0 1 xy 01 1", "exchange 0 0 1 xy 1 a", "exchange 0 0 1 xy 1 -0", "exchange x 0 1 xy 1 1",
            "Exchange 0 0 1 xy 1 1", "exchange 0 0 xy 1 1 1", "exchange xy 0 0 1 1 1", "exchange 0 0 1 ", "begin\tx 1", "begin x\t1", "done", "undo",
        ):
            self.bad(HEAD + "\nbegin x 2\n" + line, 6)
            self.bad(HEAD + "\n" + line + "\nbegin x 2", 5)

    def test_lines_whose_deed_is_refused(self):
        for line in (
            "begin z 1", "begin x 0", "begin h2 1", "begin h0 2", "begin k -3", "begin h00 1", "begin 1 1", "begin x 1 y 0", "begin begin 1",
            "exchange 2 0 1 xy 1 1", "exchange -1 0 1 xy 1 1", "exchange 0 2 1 xy 1 1", "exchange 0 -1 1 xy 1 1", "exchange 1 1 1 xy 1 1",
            "exchange 0 0 0 xy 1 1", "exchange 0 0 2 xy 1 1", "exchange 0 0 1 xy 0 1", "exchange 0 0 1 yx 1 1", "exchange 0 0 1 7", "exchange 0 0 1 7 7",
            "exchange 0 0 1 x 2 1", "exchange 0 0 1 kh 2", "exchange 0 0 1 xy", "exchange 0 0 1 xy 1", "exchange 0 0 1 xy 1 1 1", "exchange 0 0 1 kt",
            "exchange 0 0 1 kt 1 1", "exchange 0 0 1 kh", "exchange 0 0 1 kh 0 0", "exchange 0 0 1 t 0", "exchange 0 0 1 t -1 1",
        ):
            self.bad(HEAD + "\nbegin x 2\n" + line, 6)

    def test_lines_that_are_done(self):
        self.good("begin")
        self.good("begin x 2\nexchange 0 1 1 xy 1 1\nexchange 0 0 -1 kt -3\nbegin\nexchange 0 0 1 kh 1\nexchange 0 0 1 t 0 5")
        bench = read_journal(HEAD + "\nbegin x 1 x 1\nexchange 1 0 -1 kh 0")
        self.same((bench.beginning, bench.deeds, len(bench)), ((("x", 2),), 2, 1))
        self.same(bench.word, read_word(Machine(TWO), "x 2 h0 1 k -1 h0 -1 k 1"))
        bench.undo()
        bench.undo()
        self.same(bench.word, ())

    def test_machines_go_by_their_own_hands(self):
        self.bad("figures 2\nrow 1 0 0 right\ndeeds\nbegin h1 1", 4)
        self.same(read_journal("figures 2\nrow 1 0 0 right\ndeeds\nbegin h0 1").word, (("h0", 1),))


if __name__ == "__main__":
    unittest.main()
