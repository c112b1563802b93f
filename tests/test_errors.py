"""Point 3: the classes of refusals."""

import unittest

from shiftmeet import errors
from shiftmeet.errors import MeetError, NoName, NoPaper, NoPlan, NoPrimes, NoRow, NoText, TooMany

REFUSALS = (NoPlan, NoPaper, NoPrimes, TooMany, NoText, NoName, NoRow)
NAMES = ("NoPlan", "NoPaper", "NoPrimes", "TooMany", "NoText", "NoName", "NoRow")


class Errors(unittest.TestCase):
    def test_meet_error_stands_under_value_error(self):
        self.assertEqual(MeetError.__bases__, (ValueError,))

    def test_each_refusal_stands_straight_under_meet_error(self):
        for refusal in REFUSALS:
            with self.subTest(refusal=refusal.__name__):
                self.assertEqual(refusal.__bases__, (MeetError,))

    def test_no_refusal_stands_under_another_one(self):
        for one in REFUSALS:
            for other in REFUSALS:
                with self.subTest(one=one.__name__, other=other.__name__):
                    self.assertEqual(issubclass(one, other), one is other)

    def test_each_is_there_under_its_own_name(self):
        self.assertEqual(MeetError.__name__, "MeetError")
        for name, refusal in zip(NAMES, REFUSALS):
            self.assertEqual(refusal.__name__, name)
            self.assertIs(getattr(errors, name), refusal)

    def test_each_is_raised_with_and_without_words(self):
        for refusal in REFUSALS:
            with self.assertRaises(MeetError):
                raise refusal("words")
            with self.assertRaises(ValueError):
                raise refusal()


if __name__ == "__main__":
    unittest.main()
