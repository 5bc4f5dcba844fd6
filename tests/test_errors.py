"""Point 17, and what point 2 tells of errors."""

import unittest

from finestairs import errors
from tests.helper import any_values

NAMES = (
    "BadPieces BadDay BadText Endless BadNumber BadFine BadCase NoKind NoThing NoLine BadRow BadCalendar "
    "BadHabit BadOut BadVisit OtherCase BadOffers BadWishes BadSeen NeverSo CannotCome NotOut NotCome Empty "
    "NothingToUndo NothingToRedo NoTrial BadJournal BadSay"
).split()


class ErrorsTest(unittest.TestCase):
    def test_fine_error_is_directly_below_value_error(self):
        self.assertEqual(errors.FineError.__bases__, (ValueError,))

    def test_all_others_are_directly_below_fine_error(self):
        for name in NAMES:
            with self.subTest(name):
                self.assertEqual(getattr(errors, name).__bases__, (errors.FineError,))
                self.assertEqual(getattr(errors, name).__name__, name)

    def test_there_are_no_others(self):
        found = [name for name in vars(errors) if isinstance(getattr(errors, name), type)]
        self.assertEqual(sorted(found), sorted([*NAMES, "FineError"]))

    def test_each_keeps_any_value(self):
        for name in ["FineError", *NAMES]:
            for value in any_values():
                with self.subTest(name, value=value):
                    self.assertIs(getattr(errors, name)(value).value, value)

    def test_each_can_be_caught_as_value_error(self):
        for name in ["FineError", *NAMES]:
            with self.subTest(name), self.assertRaises(ValueError) as caught:
                raise getattr(errors, name)(name)
            self.assertEqual(caught.exception.value, name)


if __name__ == "__main__":
    unittest.main()
