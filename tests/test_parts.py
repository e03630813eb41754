import unittest
from enum import IntEnum
from fractions import Fraction

from helpers import Case, fraction, knotted, odd_things, part
from widthwise.errors import NoPart
from widthwise.parts import (
    added, greater, is_more, is_part, lesser, less, part_of, part_text, product, quotient,
    read_part,
)

GREAT = 10 ** 39 + 9
NUMBERS = [Fraction(top, bottom) for top in range(-6, 7) for bottom in range(1, 6)]
PARTS = sorted({part(number) for number in NUMBERS}) + [
    (GREAT, 1), (-GREAT, 10 ** 39), (1, GREAT), (10 ** 39 - 1, GREAT), (10 ** 39, GREAT),
]
PAIRS = [(one, other) for one in PARTS for other in PARTS]


class IsPartTest(Case):

    def test_fractions_in_lowest_terms(self):
        for thing in [(0, 1), (1, 1), (-1, 1), (3, 4), (-3, 4), (4, 3), (1, 1000), (GREAT, 10 ** 39)]:
            self.assertIs(is_part(thing), True, thing)

    def test_all_small_tuples(self):
        for top in range(-12, 13):
            for bottom in range(-12, 13):
                lowest = bottom > 0 and part(Fraction(top, bottom)) == (top, bottom)
                self.assertIs(is_part((top, bottom)), lowest, (top, bottom))

    def test_common_divisors(self):
        for thing in [(2, 4), (0, 2), (0, 5), (-2, 2), (6, 9), (2 * GREAT, 4), (GREAT, GREAT)]:
            self.assertIs(is_part(thing), False, thing)

    def test_bottoms_not_from_1_on(self):
        for thing in [(1, 0), (0, 0), (-1, 0), (1, -1), (-1, -1), (0, -1), (3, -4), (-3, -4)]:
            self.assertIs(is_part(thing), False, thing)

    def test_truths_are_no_tops_and_no_bottoms(self):
        for thing in [(True, 1), (False, 1), (1, True), (0, True), (True, True), (1, False)]:
            self.assertIs(is_part(thing), False, thing)

    def test_other_numbers_of_things(self):
        for thing in [(), (1,), (1, 2, 3), (1, 2, 1), ((1, 2),), ((1, 2), (1, 2))]:
            self.assertIs(is_part(thing), False, thing)

    def test_lists_and_others_with_two_in_them(self):
        for thing in [[1, 2], [0, 1], {0: 1, 1: 2}, "12", b"12", range(1, 3), {1, 2}]:
            self.assertIs(is_part(thing), False, thing)

    def test_odd_things_alone_and_within(self):
        for thing in odd_things():
            self.assertIs(is_part(thing), False)
        for thing in odd_things() + [knotted(), []]:
            if thing.__class__ is not int:
                self.assertIs(is_part((thing, 1)), False)
                self.assertIs(is_part((0, thing)), False)
                self.assertIs(is_part((thing, thing)), False)

    def test_ints_under_int(self):
        class Side(IntEnum):
            LEFT = 3
        self.assertIs(is_part((Side.LEFT, 2)), True)
        self.plain_part(part_of(Side.LEFT, Side.LEFT))


class PartOfTest(Case):

    def test_all_small_ones(self):
        for top in range(-12, 13):
            for bottom in range(-12, 13):
                if bottom != 0:
                    found = part_of(top, bottom)
                    self.plain_part(found)
                    self.assertEqual(found, part(Fraction(top, bottom)))
                    self.assertIs(is_part(found), True)

    def test_bottom_is_1_where_none_is_told(self):
        for top in [0, 1, -1, 7, GREAT, -GREAT]:
            self.assertEqual(part_of(top), (top, 1))

    def test_bottoms_below_0(self):
        self.assertEqual(part_of(3, -4), (-3, 4))
        self.assertEqual(part_of(-6, -4), (3, 2))
        self.assertEqual(part_of(0, -5), (0, 1))

    def test_great_ones(self):
        self.assertEqual(part_of(GREAT * 6, GREAT * 4), (3, 2))
        self.assertEqual(part_of(GREAT * 10 ** 39, -GREAT), (-(10 ** 39), 1))

    def test_bottom_0(self):
        for top in [0, 1, -1, GREAT]:
            self.refused(NoPart, part_of, top, 0)

    def test_bottoms_that_are_no_whole_number(self):
        for bottom in [True, False, None, "1", (1, 1), [1]]:
            self.refused(NoPart, part_of, 1, bottom)

    def test_tops_that_are_no_whole_number(self):
        for top in [True, False, None, "1", (1, 1), [1]]:
            self.refused(NoPart, part_of, top)
            self.refused(NoPart, part_of, top, 2)


class ReckoningTest(Case):

    def check(self, action, reckoned):
        for one, other in PAIRS:
            found = self.untouched(action, one, other)
            self.plain_part(found)
            self.assertEqual(fraction(found), reckoned(fraction(one), fraction(other)))

    def test_added(self):
        self.assertEqual(added((1, 2), (1, 6)), (2, 3))
        self.assertEqual(added((1, 2), (-1, 2)), (0, 1))
        self.check(added, lambda one, other: one + other)

    def test_less(self):
        self.assertEqual(less((1, 2), (1, 6)), (1, 3))
        self.assertEqual(less((1, 6), (1, 2)), (-1, 3))
        self.check(less, lambda one, other: one - other)

    def test_product(self):
        self.assertEqual(product((2, 3), (3, 4)), (1, 2))
        self.assertEqual(product((-2, 3), (0, 1)), (0, 1))
        self.check(product, lambda one, other: one * other)

    def test_quotient(self):
        self.assertEqual(quotient((1, 2), (-3, 4)), (-2, 3))
        self.assertEqual(quotient((0, 1), (-3, 4)), (0, 1))
        for one, other in PAIRS:
            if other != (0, 1):
                found = self.untouched(quotient, one, other)
                self.plain_part(found)
                self.assertEqual(fraction(found), fraction(one) / fraction(other))

    def test_quotient_by_0(self):
        for one in PARTS:
            self.refused(NoPart, quotient, one, (0, 1))


class ComparingTest(Case):

    def test_is_more(self):
        self.assertIs(is_more((1, 2), (1, 3)), True)
        self.assertIs(is_more((1, 3), (1, 2)), False)
        self.assertIs(is_more((1, 2), (1, 2)), False)
        self.assertIs(is_more((-1, 3), (-1, 2)), True)
        for one, other in PAIRS:
            found = self.untouched(is_more, one, other)
            self.assertIs(found, fraction(one) > fraction(other))

    def test_lesser(self):
        self.assertEqual(lesser((1, 2), (2, 3)), (1, 2))
        self.assertEqual(lesser((2, 3), (1, 2)), (1, 2))
        for one, other in PAIRS:
            found = self.untouched(lesser, one, other)
            self.assertEqual(found, part(min(fraction(one), fraction(other))))

    def test_greater(self):
        self.assertEqual(greater((1, 2), (2, 3)), (2, 3))
        self.assertEqual(greater((2, 3), (1, 2)), (2, 3))
        for one, other in PAIRS:
            found = self.untouched(greater, one, other)
            self.assertEqual(found, part(max(fraction(one), fraction(other))))


WRITTEN = [
    ((0, 1), "0"), ((1, 1), "1"), ((-1, 1), "-1"), ((10, 1), "10"), ((1000, 1), "1000"),
    ((1, 2), "1/2"), ((-1, 2), "-1/2"), ((3, 10), "3/10"), ((-30, 7), "-30/7"),
    ((GREAT, 1), str(GREAT)), ((-GREAT, 10 ** 39), f"-{GREAT}/{10 ** 39}"),
    ((10 ** 59 + 1, 10 ** 59), f"{10 ** 59 + 1}/{10 ** 59}"),
    ((-(10 ** 60) + 1, 1), "-" + "9" * 60),
]

UNWRITTEN = [
    "", " ", "-", "/", "-/", "--1", "-1-", "1-", "+", "+1", "+1/2", "-+1", "a", "x1", "1x", "0x1",
    "00", "01", "-01", "01/2", "1/02", "007", "-0", "-0/1", "-00", "0/1", "0/2", "0/0", "-0/2",
    " 1", "1 ", "1 /2", "1/ 2", " 1/2", "1/2 ", "- 1", "1\n", "\n1", "1/2\n", "1\t", "\t1", "1 2",
    "1/1", "-1/1", "5/1", "2/2", "2/4", "6/9", "-6/9", "10/5", "1/-2", "-1/-2", "1/+2", "1/0",
    "-1/0", "1/00", "1/", "/2", "-/2", "1//2", "1/2/", "1/2/3", "/1/2", "1/2/1", "1,5", "1.5", "1.",
    ".5", "1e3", "1E3", "1_000", "1/1_0", "_1", "(1, 2)", "1:2", "1\\2", "nan", "inf", "None",
    "\u0661", "1/\u0662", "\uff11", "\u00b2", "1/\u00b2", "\u2460", "\u00bd", "1\u20442", "\u22121",
    "\u00a01", "1\u2003", "1\x00", "\x001", "\x1c1", "1\x1f", "\U0001d7d9",
    "9" * 60 + "/" + "3" * 60, "0" + "9" * 59, "1/" + "0" * 60,
]


class TextTest(Case):

    def test_part_text(self):
        for thing, text in WRITTEN:
            found = self.untouched(part_text, thing)
            self.assertIs(found.__class__, str)
            self.assertEqual(found, text)

    def test_read_part(self):
        for thing, text in WRITTEN:
            found = read_part(text)
            self.plain_part(found)
            self.assertEqual(found, thing)

    def test_there_and_back(self):
        for thing in PARTS:
            self.assertEqual(read_part(part_text(thing)), thing)

    def test_other_texts_are_refused(self):
        for text in UNWRITTEN:
            with self.subTest(text=text):
                self.refused(NoPart, read_part, text)

    def test_long_texts_are_refused(self):
        for many in [61, 640, 4299, 4300, 4301, 5000, 20000]:
            noughts, ones = "0" * many, "1" * many
            for text in [
                noughts, "-" + noughts, noughts + "1", "-" + noughts + "1", noughts + "/3", "1/" + noughts,
                "1/" + noughts + "3", "1/3" + noughts + "x", "x" + noughts, "-" + noughts + "1/2",
                "2" + noughts + "/2", "2/2" + noughts, "-2" + noughts + "/4", "0/1" + noughts, "-0/1" + noughts,
                "1" + noughts + "/1", "1" + noughts + "/0", "1" + noughts + "/1" + noughts, ones + "/" + ones,
                "1" + noughts + " ", " 1" + noughts, "1" + noughts + "\n", "+1" + noughts, "--1" + noughts,
                "1" + noughts + "/-3", "1" + noughts + "/3/3", "/" * many, "-" * many, " " * many, "x" * many,
                "\u0661" * many, "1/" + "\uff11" * many,
            ]:
                self.refused(NoPart, read_part, text)

    def test_long_texts_that_are_parts(self):
        for many in [59, 60, 61, 119, 120, 121, 640, 4300, 4301, 5000]:
            ten = 10 ** many
            for thing, text in [
                ((ten, 1), "1" + "0" * many), ((-ten, 1), "-1" + "0" * many),
                ((ten, 3), "1" + "0" * many + "/3"), ((-3, ten), "-3/1" + "0" * many),
                ((ten - 1, ten), "9" * many + "/1" + "0" * many), ((ten + 7, 1), "1" + "0" * (many - 1) + "7"),
            ]:
                self.assertTrue(read_part(text) == thing)
                self.assertTrue(part_text(thing) == text)

    def test_all_short_texts(self):
        told = {part_text(part(Fraction(top, bottom))) for top in range(-210, 211) for bottom in range(1, 30)}
        texts = [""]
        for _ in range(4):
            texts = [text + sign for text in texts for sign in ("", "0", "1", "2", "-", "/", " ")]
        for text in sorted(set(texts)):
            try:
                found = part_text(read_part(text))
            except NoPart:
                found = None
                # Four signs tell tops to 2222, more than are told above.
                if text.isdigit() and not text.startswith("0"):
                    self.fail(text)
                self.assertNotIn(text, told)
            else:
                self.assertEqual(found, text)


if __name__ == "__main__":
    unittest.main()
