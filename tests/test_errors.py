"""The refusals: promise 2, and the interface."""

import unittest

from summitwater import errors
from summitwater.errors import SummitError

BY_NUMBER = ["NoText", "Falls"]
BY_TEXT = [
    "NoGate", "Dry", "Full", "NoSpring", "NoBarge", "NoRoom", "Uneven", "Shallow", "TooMany", "NoLine",
]
NAMES = BY_NUMBER + BY_TEXT


def made(name):
    return getattr(errors, name)(3 if name in BY_NUMBER else "why")


def is_taken(error, kind):
    try:
        try:
            raise error
        except kind:
            return True
    except Exception:
        return False


class ErrorsTest(unittest.TestCase):
    def test_each_is_taken_by_itself_and_by_what_it_stands_under(self):
        for name in NAMES:
            with self.subTest(name):
                self.assertTrue(is_taken(made(name), getattr(errors, name)))
                self.assertTrue(is_taken(made(name), SummitError))
                self.assertTrue(is_taken(made(name), ValueError))

    def test_none_is_taken_by_another_one(self):
        for name in NAMES:
            for other in NAMES:
                if name != other:
                    self.assertFalse(is_taken(made(name), getattr(errors, other)), (name, other))

    def test_summit_error_is_none_of_the_twelve(self):
        error = SummitError("why")
        self.assertTrue(is_taken(error, ValueError))
        for name in NAMES:
            self.assertFalse(is_taken(error, getattr(errors, name)), name)

    def test_those_made_of_a_number_have_it_as_their_field(self):
        great = 10 ** 6000
        for name in BY_NUMBER:
            for at in [0, 1, 5999, -1, 10 ** 60, great]:
                error = getattr(errors, name)(at)
                # Not assertEqual: it would write the great number out.
                self.assertTrue(error.at == at, name)
                self.assertIsInstance(error.at, int)
                self.assertIsInstance(str(error), str)

    def test_the_fields_of_two_errors_are_their_own(self):
        for name in BY_NUMBER:
            first = getattr(errors, name)(1)
            second = getattr(errors, name)(2)
            self.assertEqual((first.at, second.at), (1, 2))

    def test_those_made_of_a_text_tell_it(self):
        for name in BY_TEXT + ["SummitError"]:
            self.assertEqual(str(getattr(errors, name)("why so")), "why so")


if __name__ == "__main__":
    unittest.main()
