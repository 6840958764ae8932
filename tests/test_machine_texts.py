"""Section 5: texts of pair machines, and what a Machine is."""

import unittest

from emptywords.errors import BadMachine
from emptywords.pairs import Machine
from emptywords.strips import Strip
from tests.helping import SMALL, WIPE, StrictCase, any_values


class GoodTexts(StrictCase):
    def test_properties(self):
        machine = Machine(SMALL)
        self.same(machine.text, SMALL)
        self.same(machine.figures, 2)
        self.same(machine.rows, ((1, 0, 0, "right"), (0, 1, 1, "left"), (1, 1, 0, "left")))

    def test_limits_that_are_reached(self):
        for figures in range(2, 10):
            high, square = figures - 1, figures * figures
            machine = Machine(f"figures {figures}\nrow {high} {high} {square - 1} left\nrow 0 {high} 0 right")
            self.same(machine.figures, figures)
            self.same(machine.rows, ((high, high, square - 1, "left"), (0, high, 0, "right")))

    def test_all_rows_there_can_be(self):
        rows = tuple((at // 9, at % 9, at, "left" if at % 2 else "right") for at in range(80, 0, -1))
        told = "\n".join("row " + " ".join(str(word) for word in row) for row in rows)
        self.same(Machine("figures 9\n" + told).rows, rows)

    def test_text_by_its_name(self):
        self.same(Machine(text=SMALL).rows, Machine(SMALL).rows)


class Equality(StrictCase):
    def test_equal_by_text(self):
        self.assertTrue(Machine(SMALL) == Machine("".join(list(SMALL))))
        self.assertFalse(Machine(SMALL) != Machine(SMALL))
        other = Machine("figures 2\nrow 1 0 0 right")
        self.assertFalse(Machine(SMALL) == other)
        self.assertTrue(Machine(SMALL) != other)

    def test_the_same_rows_in_another_sequence_are_another_text(self):
        lines = SMALL.split("\n")
        self.assertFalse(Machine(SMALL) == Machine("\n".join(lines[:1] + lines[:0:-1])))

    def test_equal_to_nothing_else(self):
        machine = Machine(SMALL)
        for value in any_values() + [machine.rows, machine.text, Strip(WIPE)]:
            if not isinstance(value, Machine):
                with self.subTest(value=value):
                    self.assertIs(machine == value, False)
                    self.assertIs(value == machine, False)
                    self.assertIs(machine != value, True)

    def test_equal_to_nothing_that_only_has_its_text(self):
        class Alike:
            text, figures, rows = SMALL, 2, Machine(SMALL).rows

        self.assertFalse(Machine(SMALL) == Alike())

    def test_other_operators(self):
        for value in any_values():
            for look in (lambda: Machine(SMALL) < value, lambda: Machine(SMALL) + value, lambda: Machine(SMALL) * value):
                self.assertRaises(TypeError, look)


class BadTexts(StrictCase):
    def bad(self, number, *lines):
        with self.subTest(lines):
            self.refused_number(BadMachine, number, Machine, "\n".join(lines))

    def test_no_string(self):
        for value in any_values():
            if not isinstance(value, str):
                with self.subTest(value=value):
                    self.refused_number(BadMachine, 0, Machine, value)

    def test_without_signs(self):
        self.bad(1, "")

    def test_figures(self):
        for line in (
            "", " ", "figures", "figures ", "figures 0", "figures 1", "figures 10", "figures 23", "figures -2",
            "figures 02", "figures +2", "figures 2.0", "figures two", "figures 2 2", "figures 2 ", " figures 2",
            "figures  2", "2", "2 figures", "Figures 2", "figure 2", "figures2", "marks 2", "row 2", "row 1 0 0 left",
        ):
            self.bad(1, line, "row 1 0 0 left")
            self.bad(1, line)

    def test_rows(self):
        for line in (
            "", " ", "row", "row ", "row 0 1 0", "row 0 1 left", "0 1 0 left", "row 0 1 0 left left", "row 0 1 0 0 left",
            "row 0 1 0 left end", "row  0 1 0 left", "row 0  1 0 left", "row 0 1  0 left", "row 0 1 0  left",
            " row 0 1 0 left", "row 0 1 0 left ", "Row 0 1 0 left", "rows 0 1 0 left", "row0 1 0 left",
            "row 2 1 0 left", "row 3 1 0 left", "row -1 1 0 left", "row 00 1 0 left", "row +0 1 0 left", "row -0 1 0 left",
            "row 0 2 0 left", "row 0 -1 0 left", "row 0 01 0 left", "row 0 +1 0 left", "row 0 1 4 left", "row 0 1 5 left",
            "row 0 1 -1 left", "row 0 1 00 left", "row 0 1 03 left", "row 0 1 1.0 left", "row 0 1 0 up", "row 0 1 0 Left",
            "row 0 1 0 rigth", "row 0 1 0 0", "row 0 1 left 0", "row a b c left", "row 0 0 0 left", "row 0 0 1 right",
            "figures 2", "deeds",
        ):
            self.bad(2, "figures 2", line)
            self.bad(2, "figures 2", line, "row 1 1 0 right")
            self.bad(3, "figures 2", "row 1 1 0 right", line)
            self.bad(3, "figures 2", "row 1 1 0 right", line, line)

    def test_limits_go_by_the_figures_that_are_told(self):
        for figures in range(2, 10):
            head, square = f"figures {figures}", figures * figures
            self.bad(2, head, f"row {figures} 0 0 left")
            self.bad(2, head, f"row 0 {figures} 0 left")
            self.bad(2, head, f"row 1 0 {square} left")
            self.bad(2, head, f"row 1 0 {square} right")
            self.bad(2, head, "row 0 0 1 right")
            self.same(Machine(f"{head}\nrow 1 0 {square - 1} left").rows, ((1, 0, square - 1, "left"),))

    def test_the_same_figures_twice(self):
        self.bad(3, "figures 2", "row 0 1 0 left", "row 0 1 0 left")
        self.bad(3, "figures 2", "row 0 1 0 left", "row 0 1 3 right")
        self.bad(4, "figures 2", "row 0 1 0 left", "row 1 0 0 left", "row 0 1 1 right")
        self.bad(5, "figures 2", "row 0 1 0 left", "row 1 0 0 left", "row 1 1 0 left", "row 1 1 0 left", "")
        self.same(len(Machine("figures 2\nrow 0 1 0 left\nrow 1 0 0 left\nrow 1 1 0 left").rows), 3)

    def test_no_row(self):
        self.bad(2, "figures 2")
        self.bad(2, "figures 2", "")
        self.bad(2, "figures 2", "", "row 0 1 0 left")

    def test_a_line_out_twice_or_exchanged(self):
        figures, row = "figures 2", "row 0 1 0 left"
        self.bad(1, row)
        self.bad(2, figures, figures, row)
        self.bad(3, figures, row, row)
        self.bad(1, row, figures)
        self.bad(3, figures, row, figures)

    def test_line_feeds_too_many(self):
        self.bad(1, "", *SMALL.split("\n"))
        self.bad(5, *SMALL.split("\n"), "")
        self.bad(5, *SMALL.split("\n"), "", "")
        self.bad(1, SMALL.replace("\n", " "))

    def test_the_first_line_at_fault_is_told(self):
        self.bad(1, "figures 1", "row", "row")
        self.bad(3, "figures 2", "row 0 1 0 left", "row 1 0 4 left", "row 0 1 0 left", "")
        self.bad(1, *WIPE.split("\n"))


if __name__ == "__main__":
    unittest.main()
