import unittest

from helpers import Case
from widthwise.figures import figures_of, is_number, number_of

NUMBERS = [0, 1, 9, 10, 11, 1000, 10 ** 59, 10 ** 60 - 1, 10 ** 60, 10 ** 60 + 1, 7 * 10 ** 119, 10 ** 120,
           10 ** 120 + 10 ** 60, 3 ** 1000]
LENGTHS = [1, 2, 59, 60, 61, 119, 120, 121, 180, 4299, 4300, 4301, 10000]


class FiguresTest(Case):

    def test_is_number(self):
        for number in NUMBERS:
            self.assertIs(is_number(str(number)), True)
        for text in ["", "00", "01", "-1", "+1", "1 ", " 1", "1\n", "1_0", "1.0", "x", "\u0661", "\u00b2", "1\u0661"]:
            self.assertIs(is_number(text), False, text)
        for many in LENGTHS:
            self.assertIs(is_number("1" * many), True)
            self.assertIs(is_number("0" * many), many == 1)
            self.assertIs(is_number("0" * many + "1"), False)

    def test_there_and_back(self):
        for number in NUMBERS:
            self.assertEqual(figures_of(number), str(number))
            self.assertEqual(number_of(str(number)), number)

    def test_any_length(self):
        for many in LENGTHS:
            self.assertTrue(figures_of(10 ** many) == "1" + "0" * many)
            self.assertTrue(number_of("1" + "0" * many) == 10 ** many)
            self.assertTrue(figures_of(10 ** many - 1) == "9" * many)
            self.assertTrue(number_of("9" * many) == 10 ** many - 1)


if __name__ == "__main__":
    unittest.main()
