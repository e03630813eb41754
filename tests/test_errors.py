import unittest

from helpers import KINDS
from widthwise import errors
from widthwise.errors import WideError

NAMES = [
    "NoPart", "NoSpan", "NoBox", "NoText", "NoItem",
    "NoName", "NoWish", "NoChange", "NoRow", "TooMany",
]


class ErrorsTest(unittest.TestCase):

    def test_wide_error_is_a_value_error(self):
        self.assertTrue(issubclass(WideError, ValueError))

    def test_all_ten_are_there_under_their_names(self):
        for name in NAMES:
            kind = getattr(errors, name)
            self.assertEqual(kind.__name__, name)
            self.assertEqual(kind.__module__, "widthwise.errors")
        self.assertEqual([kind.__name__ for kind in KINDS], NAMES)

    def test_all_ten_stand_under_wide_error(self):
        for kind in KINDS:
            self.assertTrue(issubclass(kind, WideError))
            self.assertIsNot(kind, WideError)

    def test_none_of_the_ten_is_under_another(self):
        for kind in KINDS:
            self.assertEqual([other for other in KINDS if issubclass(kind, other)], [kind])

    def test_each_is_raised_and_caught_as_what_it_is(self):
        for kind in KINDS:
            for caught in (kind, WideError, ValueError):
                with self.assertRaises(caught):
                    raise kind("why")

    def test_what_python_refuses_itself_is_no_wide_error(self):
        self.assertFalse(issubclass(ValueError, WideError))


if __name__ == "__main__":
    unittest.main()
