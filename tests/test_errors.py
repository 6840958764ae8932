"""Section 15, and what section 2 tells of errors."""

import unittest

from emptywords import errors
from tests.helping import StrictCase, any_values

NAMES = (
    "BadMost BadPair BadStrip NoStrip BadStanding BadMachine NoMachine BadWord BadPower BadText HasHands HasK"
    " BadForm BadRow BadExchange BadProduct NotEmpty BadHand BadWay IsPassed BadTower NotEnded NoRun BadChain"
    " NothingToUndo NothingToRedo NoBlock BadJournal BadTask"
).split(" ")


class Errors(StrictCase):
    def test_word_error_derives_from_value_error_alone(self):
        self.assertEqual(errors.WordError.__bases__, (ValueError,))

    def test_all_others_derive_directly_from_word_error(self):
        self.assertEqual(len(NAMES), 29)
        for name in NAMES:
            with self.subTest(name):
                self.assertEqual(getattr(errors, name).__bases__, (errors.WordError,))
                self.assertEqual(getattr(errors, name).__name__, name)

    def test_they_are_distinct(self):
        self.assertEqual(len({getattr(errors, name) for name in NAMES}), 29)

    def test_the_only_argument_is_kept_as_value(self):
        for name in ["WordError"] + NAMES:
            for value in any_values():
                with self.subTest(name, value=value):
                    self.assertIs(getattr(errors, name)(value).value, value)

    def test_there_is_just_one_argument(self):
        for name in ["WordError"] + NAMES:
            with self.subTest(name):
                self.assertRaises(TypeError, getattr(errors, name))
                self.assertRaises(TypeError, getattr(errors, name), 1, 2)

    def test_they_can_be_raised_and_caught(self):
        for name in ["WordError"] + NAMES:
            with self.subTest(name):
                for base in (getattr(errors, name), errors.WordError, ValueError):
                    with self.assertRaises(base) as caught:
                        raise getattr(errors, name)([name])
                    self.assertEqual(caught.exception.value, [name])


if __name__ == "__main__":
    unittest.main()
