"""Integers as Python writes them, in texts of words and of journals."""

import unittest

from emptywords.basics import integer_text, told_integer
from tests.helping import StrictCase


class Integers(StrictCase):
    def test_there_and_back(self):
        for number in [*range(-120, 121), 10 ** 59, 10 ** 60 - 1, 10 ** 60, 10 ** 60 + 1, -(10 ** 60), 10 ** 61, 3 ** 2000]:
            self.same(integer_text(number), str(number))
            self.same(told_integer(str(number)), number)

    def test_more_figures_than_python_itself_takes(self):
        for word, number in (("1" + "0" * 4500, 10 ** 4500), ("-" + "9" * 8000, -(10 ** 8000) + 1)):
            self.assertTrue(told_integer(word) == number)
            self.assertTrue(integer_text(number) == word)

    def test_none(self):
        for word in ("", "-", "-0", "--1", "+1", "+0", "00", "01", "-01", "1-", "1.0", "1e3", "1_0", " 1", "1 ", "x", "0x1",
                     "1\n", "one", "\u0661", "\u00b2", "1\u0661"):
            self.assertIsNone(told_integer(word), word)


if __name__ == "__main__":
    unittest.main()
