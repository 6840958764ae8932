"""Section 4: texts of strips, and what a Strip is."""

import unittest

from emptywords.errors import BadStrip
from emptywords.pairs import Machine
from emptywords.strips import Strip
from tests.helping import SMALL, SWING, WIPE, StrictCase, any_values


class GoodTexts(StrictCase):
    def test_properties(self):
        swing = Strip(SWING)
        self.same(swing.text, SWING)
        self.same(swing.marks, 2)
        self.same(swing.states, 2)
        self.same(swing.rows, ((0, 0, 1, "right", 1), (1, 0, 0, "left", 0), (0, 1, 0, "right", 1)))

    def test_the_end_is_told_as_the_number_of_states(self):
        for states in (1, 2, 3, 4):
            text = f"marks 2\nstates {states}\nrow {states - 1} 1 1 left end"
            self.same(Strip(text).rows, ((states - 1, 1, 1, "left", states),))
            self.same(Strip(text).states, states)

    def test_limits_that_are_reached(self):
        for marks in (2, 3):
            for states in (1, 2, 3, 4):
                rows = []
                for state in range(states):
                    for mark in range(marks):
                        rows.append((state, mark, marks - 1 - mark, "left" if mark else "right", states - 1 - state))
                told = "\n".join("row " + " ".join(str(word) for word in row) for row in rows)
                strip = Strip(f"marks {marks}\nstates {states}\n{told}")
                self.same((strip.marks, strip.states, strip.rows), (marks, states, tuple(rows)))

    def test_rows_stand_as_told(self):
        strip = Strip("marks 3\nstates 2\nrow 1 2 0 left 0\nrow 0 2 1 right end\nrow 1 0 2 right 1")
        self.same(strip.rows, ((1, 2, 0, "left", 0), (0, 2, 1, "right", 2), (1, 0, 2, "right", 1)))

    def test_text_by_its_name(self):
        self.same(Strip(text=WIPE).rows, Strip(WIPE).rows)


class Equality(StrictCase):
    def test_equal_by_text(self):
        self.assertTrue(Strip(WIPE) == Strip("".join(list(WIPE))))
        self.assertFalse(Strip(WIPE) != Strip(WIPE))
        self.assertFalse(Strip(WIPE) == Strip(SWING))
        self.assertTrue(Strip(WIPE) != Strip(SWING))

    def test_the_same_rows_in_another_sequence_are_another_text(self):
        lines = WIPE.split("\n")
        self.assertFalse(Strip(WIPE) == Strip("\n".join(lines[:2] + lines[:1:-1])))

    def test_equal_to_nothing_else(self):
        strip = Strip(WIPE)
        for value in any_values() + [strip.rows, strip.text, Machine(SMALL)]:
            if not isinstance(value, Strip):
                with self.subTest(value=value):
                    self.assertIs(strip == value, False)
                    self.assertIs(value == strip, False)
                    self.assertIs(strip != value, True)

    def test_equal_to_nothing_that_only_has_its_text(self):
        class Alike:
            text, marks, states, rows = WIPE, 2, 1, Strip(WIPE).rows

        self.assertFalse(Strip(WIPE) == Alike())

    def test_other_operators(self):
        for value in any_values():
            for look in (lambda: Strip(WIPE) < value, lambda: Strip(WIPE) + value, lambda: Strip(WIPE) * value):
                self.assertRaises(TypeError, look)


class BadTexts(StrictCase):
    def bad(self, number, *lines):
        with self.subTest(lines):
            self.refused_number(BadStrip, number, Strip, "\n".join(lines))

    def test_no_string(self):
        for value in any_values():
            if not isinstance(value, str):
                with self.subTest(value=value):
                    self.refused_number(BadStrip, 0, Strip, value)

    def test_without_signs(self):
        self.bad(1, "")

    def test_marks(self):
        for line in (
            "", " ", "marks", "marks ", "marks 0", "marks 1", "marks 4", "marks 10", "marks 22", "marks -2", "marks 02",
            "marks +2", "marks 2.0", "marks 2_", "marks two", "marks 2 2", "marks 2 ", " marks 2", "marks  2", "2",
            "2 marks", "Marks 2", "mark 2", "marks2", "marks 2 states 1", "states 1", "row 0 0 0 left end", "figures 2",
            "row 2", "marks end", "marks True",
        ):
            self.bad(1, line, "states 1", "row 0 0 0 left end")
            self.bad(1, line)

    def test_states(self):
        for line in (
            "", " ", "states", "states ", "states 0", "states 5", "states 10", "states 11", "states -1", "states 01",
            "states +1", "states 1.0", "states one", "states 1 1", "states 1 ", " states 1", "states  1", "1", "1 states",
            "States 1", "state 1", "states1", "marks 2", "row 0 0 0 left end", "row 1", "states end",
        ):
            self.bad(2, "marks 2", line, "row 0 0 0 left end")
            self.bad(2, "marks 2", line)

    def test_rows(self):
        for line in (
            "", " ", "row", "row ", "row 0 0 0 left", "row 0 0 0", "0 0 0 left end", "row 0 0 0 left end end",
            "row 0 0 0 left 0 0", "row 0 0 0 0 left end", "row  0 0 0 left end", "row 0  0 0 left end",
            "row 0 0  0 left end", "row 0 0 0  left end", "row 0 0 0 left  end", " row 0 0 0 left end",
            "row 0 0 0 left end ", "Row 0 0 0 left end", "rows 0 0 0 left end", "row0 0 0 left end",
            "row 2 0 0 left end", "row 3 0 0 left end", "row -1 0 0 left end", "row end 0 0 left end",
            "row 00 0 0 left end", "row +1 0 0 left end", "row 0 2 0 left end", "row 0 -1 0 left end",
            "row 0 01 0 left end", "row 0 +0 0 left end", "row 0 -0 0 left end", "row 0 0 2 left end",
            "row 0 0 -1 left end", "row 0 0 00 left end", "row 0 0 1.0 left end", "row 0 0 0 up end",
            "row 0 0 0 Left end", "row 0 0 0 rigth end", "row 0 0 0 l end", "row 0 0 0 1 end", "row 0 0 0 left 2",
            "row 0 0 0 left 3", "row 0 0 0 left -1", "row 0 0 0 left 00", "row 0 0 0 left 01", "row 0 0 0 left End",
            "row 0 0 0 left ends", "row 0 0 0 end left", "row a b c left end", "marks 2", "states 2", "deeds",
        ):
            self.bad(3, "marks 2", "states 2", line)
            self.bad(3, "marks 2", "states 2", line, "row 1 1 0 right 0")
            self.bad(4, "marks 2", "states 2", "row 1 1 0 right 0", line)
            self.bad(4, "marks 2", "states 2", "row 1 1 0 right 0", line, line)

    def test_limits_go_by_the_marks_and_states_that_are_told(self):
        self.bad(3, "marks 3", "states 1", "row 0 3 0 left end")
        self.bad(3, "marks 3", "states 1", "row 0 0 3 left end")
        self.bad(3, "marks 2", "states 1", "row 1 0 0 left end")
        self.bad(3, "marks 2", "states 1", "row 0 0 0 left 1")
        self.bad(3, "marks 2", "states 3", "row 3 0 0 left 0")
        self.bad(3, "marks 2", "states 4", "row 0 0 0 left 4")
        self.same(Strip("marks 3\nstates 4\nrow 3 2 2 left 3").rows, ((3, 2, 2, "left", 3),))

    def test_the_same_state_and_mark_twice(self):
        heads = ("marks 2", "states 2")
        self.bad(4, *heads, "row 0 1 0 left end", "row 0 1 0 left end")
        self.bad(4, *heads, "row 0 1 0 left end", "row 0 1 1 right 0")
        self.bad(5, *heads, "row 0 1 0 left end", "row 1 0 0 left end", "row 0 1 1 right 1")
        self.bad(6, *heads, "row 0 1 0 left 0", "row 1 0 0 left 0", "row 1 1 0 left 0", "row 1 1 0 left 0", "")
        self.same(len(Strip("\n".join((*heads, "row 0 1 0 left 0", "row 1 0 0 left 0", "row 0 0 0 left 0"))).rows), 3)

    def test_no_row(self):
        self.bad(2, "marks 2")
        self.bad(2, "marks 2", "")
        self.bad(3, "marks 2", "states 1")
        self.bad(3, "marks 2", "states 1", "")
        self.bad(3, "marks 2", "states 1", "", "row 0 0 0 left end")

    def test_a_line_out_twice_or_exchanged(self):
        marks, states, row = "marks 2", "states 2", "row 0 0 0 left end"
        self.bad(1, states, row)
        self.bad(2, marks, row)
        self.bad(1, row)
        self.bad(2, marks, marks, states, row)
        self.bad(3, marks, states, states, row)
        self.bad(4, marks, states, row, row)
        self.bad(1, states, marks, row)
        self.bad(2, marks, row, states)
        self.bad(1, row, states, marks)
        self.bad(4, marks, states, row, marks)

    def test_line_feeds_too_many(self):
        self.bad(1, "", *WIPE.split("\n"))
        self.bad(2, "marks 2", "", "states 1", "row 0 0 0 left end")
        self.bad(5, *WIPE.split("\n"), "")
        self.bad(5, *WIPE.split("\n"), "", "")
        self.bad(1, WIPE.replace("\n", " "))

    def test_the_first_line_at_fault_is_told(self):
        self.bad(1, "marks 4", "states 9", "row")
        self.bad(2, "marks 2", "states 9", "row")
        self.bad(4, "marks 2", "states 1", "row 0 0 0 left 0", "row 0 1 5 left 0", "row 0 0 0 left 0", "")
        self.bad(1, *SMALL.split("\n"))


if __name__ == "__main__":
    unittest.main()
