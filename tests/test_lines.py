import itertools
import random
from fractions import Fraction
import unittest

from helpers import Case, part
from widthwise.lines import broken, fewest, goes_into
from words import breakings, goes_told, lets

GREAT = 10 ** 39


def cases():
    """Wishes, gaps and widths of many kinds: just what runs of wishes take, just below and above it, and others."""
    chance = random.Random(41)
    for _ in range(250):
        wishes = [chance.choice([0, 0, 1, 2, 5, 10, chance.randrange(40), 1000]) for _ in range(chance.randrange(9))]
        gap = chance.choice([0, 0, 1, 3, 1000])
        widths = {Fraction(0), Fraction(GREAT), Fraction(GREAT, 7), Fraction(chance.randrange(100), 7)}
        for first, behind in itertools.combinations(range(len(wishes) + 1), 2):
            taken = sum(wishes[first:behind]) + gap * (behind - first - 1)
            widths.update([Fraction(taken), taken + Fraction(1, 3), taken + Fraction(1, GREAT), Fraction(taken + 1)])
            if taken:
                widths.update([taken - Fraction(1, 3), taken - Fraction(1, GREAT), Fraction(taken - 1)])
        for width in chance.sample(sorted(widths), min(12, len(widths))):
            yield wishes, gap, width


CASES = list(cases())


class BrokenTest(Case):

    def told(self, wishes, gap, width, lines):
        self.assertEqual(self.untouched(broken, wishes, gap, part(width)), lines)

    def test_no_wishes(self):
        for gap in (0, 1000):
            for width in (0, 1, GREAT):
                self.told([], gap, width, [])

    def test_one_box_has_its_line_however_wide(self):
        for width in (0, 9, 10, 11):
            self.told([10], 0, width, [[0]])
            self.told([10], 1000, width, [[0]])

    def test_all_in_a_line(self):
        self.told([10, 20, 30], 5, 70, [[0, 1, 2]])
        self.told([10, 20, 30], 5, GREAT, [[0, 1, 2]])
        self.told([10, 20, 30], 0, 60, [[0, 1, 2]])

    def test_just_below_what_a_line_takes(self):
        self.told([10, 20, 30], 5, 69, [[0, 1], [2]])
        self.told([10, 20, 30], 5, 70 - Fraction(1, GREAT), [[0, 1], [2]])
        self.told([10, 20, 30], 0, Fraction(119, 2), [[0, 1], [2]])
        self.told([10, 20, 30], 5, 35, [[0, 1], [2]])
        self.told([10, 20, 30], 5, Fraction(69, 2), [[0], [1], [2]])
        self.told([10, 20, 30], 5, 55, [[0, 1], [2]])

    def test_gaps_are_between_each_two_of_a_line_alone(self):
        self.told([1] * 6, 10, 23, [[0, 1, 2], [3, 4, 5]])
        self.told([1] * 6, 10, 22, [[0, 1], [2, 3], [4, 5]])
        self.told([1] * 5, 10, 12, [[0, 1], [2, 3], [4]])
        self.told([0, 0, 0], 1000, 999, [[0], [1], [2]])
        self.told([0, 0, 0], 1000, 1000, [[0, 1], [2]])

    def test_a_box_that_is_too_wide_stands_alone(self):
        self.told([50, 1, 1], 0, 10, [[0], [1, 2]])
        self.told([1, 50, 1], 0, 10, [[0], [1], [2]])
        self.told([1, 1, 50], 0, 10, [[0, 1], [2]])
        self.told([50, 50, 50], 0, 10, [[0], [1], [2]])
        self.told([50, 0, 0], 0, 49, [[0], [1, 2]])

    def test_a_wish_of_0_goes_into_a_line_that_is_full(self):
        self.told([10, 0, 0], 0, 10, [[0, 1, 2]])
        self.told([10, 0, 0], 1, 10, [[0], [1, 2]])
        self.told([0, 10, 0], 0, 10, [[0, 1, 2]])

    def test_width_0(self):
        self.told([0, 0, 0], 0, 0, [[0, 1, 2]])
        self.told([0, 0, 0], 1, 0, [[0], [1], [2]])
        self.told([0, 1, 0], 0, 0, [[0], [1], [2]])

    def test_lines_take_all_that_goes_into_them_not_as_evenly_as_could_be(self):
        self.told([4, 4, 4, 4], 0, 12, [[0, 1, 2], [3]])
        self.told([1, 9, 9, 1], 0, 10, [[0, 1], [2, 3]])

    def test_60_wishes(self):
        self.told([1] * 60, 0, 59, [list(range(59)), [59]])
        self.told([1000] * 60, 1000, 119000, [list(range(60))])
        self.told([1000] * 60, 1000, 999, [[at] for at in range(60)])
        self.told([10] * 60, 1, 109, [list(range(at, at + 10)) for at in range(0, 60, 10)])

    def test_by_the_words(self):
        for wishes, gap, width in CASES:
            lines = self.untouched(broken, wishes, gap, part(width))
            self.assertEqual([at for line in lines for at in line], list(range(len(wishes))))
            for line, behind in zip(lines, lines[1:] + [[]]):
                self.assertTrue(line)
                if len(line) > 1:
                    self.assertTrue(goes_told([wishes[at] for at in line], gap, width))
                if behind:
                    self.assertFalse(goes_told([wishes[at] for at in line + behind[:1]], gap, width))

    def test_no_breaking_has_fewer_lines(self):
        for wishes, gap, width in CASES:
            lines = broken(wishes, gap, part(width))
            fitting = [len(one) for one in breakings(len(wishes)) if lets(wishes, gap, width, one)]
            self.assertEqual(len(lines), min(fitting), (wishes, gap, width))

    def test_the_list_told_is_the_askers_own(self):
        wishes = [10, 20, 30]
        first = broken(wishes, 5, (35, 1))
        first[0].append(7)
        first.pop()
        self.assertEqual(broken(wishes, 5, (35, 1)), [[0, 1], [2]])
        self.assertEqual(wishes, [10, 20, 30])


class GoesIntoTest(Case):

    def told(self, wishes, gap, width, answer):
        self.assertIs(self.untouched(goes_into, wishes, gap, part(width)), answer)

    def test_none(self):
        for width in (0, 1, GREAT, -1):
            self.told([], 0, width, True)
            self.told([], 1000, width, True)

    def test_one(self):
        self.told([10], 1000, 10, True)
        self.told([10], 1000, 10 - Fraction(1, GREAT), False)
        self.told([10], 0, 9, False)
        self.told([0], 1000, 0, True)

    def test_more(self):
        self.told([10, 20, 30], 5, 70, True)
        self.told([10, 20, 30], 5, 69, False)
        self.told([10, 20, 30], 5, Fraction(139, 2), False)
        self.told([10, 20, 30], 5, Fraction(141, 2), True)
        self.told([10, 20, 30], 0, 60, True)
        self.told([10, 20, 30], 0, 59, False)
        self.told([0, 0], 0, 0, True)
        self.told([0, 0], 1, 0, False)
        self.told([1000] * 60, 1000, 119000, True)
        self.told([1000] * 60, 1000, 118999, False)

    def test_all_of_them_are_looked_at_not_those_that_go_into_a_line(self):
        self.told([10, 10], 0, 10, False)
        self.told([10, 1000], 0, 10, False)
        self.told([1000, 10], 0, 10, False)

    def test_by_the_words(self):
        for wishes, gap, width in CASES:
            self.told(wishes, gap, width, goes_told(wishes, gap, width))


class FewestTest(Case):

    def told(self, wishes, gap, width, many):
        self.assertEqual(self.untouched(fewest, wishes, gap, part(width)), many)

    def test_none_and_one(self):
        for width in (0, 9, 10, GREAT):
            self.told([], 5, width, 0)
            self.told([10], 5, width, 1)

    def test_more(self):
        self.told([10, 20, 30], 5, 70, 1)
        self.told([10, 20, 30], 5, 69, 2)
        self.told([10, 20, 30], 5, 34, 3)
        self.told([10, 20, 30], 5, 0, 3)
        self.told([50, 1, 1], 0, 10, 2)
        self.told([4, 4, 4, 4], 0, 12, 2)
        self.told([10] * 60, 1, 109, 6)
        self.told([0] * 60, 0, 0, 1)

    def test_each_box_stays_in_order(self):
        # In another order the two small ones would go into one line.
        self.told([1, 10, 1], 0, 10, 3)

    def test_over_all_breakings(self):
        for wishes, gap, width in CASES:
            fitting = [len(one) for one in breakings(len(wishes)) if lets(wishes, gap, width, one)]
            self.told(wishes, gap, width, min(fitting))


if __name__ == "__main__":
    unittest.main()
