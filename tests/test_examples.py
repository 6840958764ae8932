"""The examples of the document, as they stand there, and those of README.md."""

import doctest
import os
import unittest

FOLDER = os.path.join(os.path.dirname(os.path.abspath(__file__)), "examples")


class Examples(unittest.TestCase):
    def held(self, name, many):
        failed, attempted = doctest.testfile(os.path.join(FOLDER, name), module_relative=False)
        self.assertEqual((failed, attempted), (0, many))

    def test_section_4(self):
        self.held("section_4.txt", 11)

    def test_section_5(self):
        self.held("section_5.txt", 10)

    def test_section_6(self):
        self.held("section_6.txt", 9)

    def test_section_7(self):
        self.held("section_7.txt", 9)

    def test_section_8(self):
        self.held("section_8.txt", 10)

    def test_section_9(self):
        self.held("section_9.txt", 12)

    def test_section_10(self):
        self.held("section_10.txt", 15)

    def test_section_11(self):
        self.held("section_11.txt", 16)

    def test_section_12(self):
        self.held("section_12.txt", 14)

    def test_section_13(self):
        self.held("section_13.txt", 9)

    def test_section_14(self):
        self.held("section_14.txt", 10)

    def test_readme(self):
        self.held(os.path.join("..", "..", "README.md"), 60)


if __name__ == "__main__":
    unittest.main()
