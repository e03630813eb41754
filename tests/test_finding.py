import random
import unittest
from fractions import Fraction

from helpers import Case, fraction, part
from trees import trees_by_chance
from widthwise.boxes import box_of
from widthwise.errors import NoName
from widthwise.finding import at_point, beside, crossing, innermost, place_of
from widthwise.laying import laid

THIRD = Fraction(1, 3)
TINY = Fraction(1, 10 ** 39)


def place(name, *numbers):
    return (name,) + tuple(part(number) for number in numbers)


PAGE = [
    place("page", 0, 0, 100, 50), place("head", 0, 0, 100, 20), place("logo", 10, 5, Fraction(61, 3), 15),
    place("thin", 40, 0, 0, 20), place("flat", 50, 10, 20, 0), place("none", 60, 10, 0, 0),
    place("text", 0, 20, 100, 30), place("wide", 90, 30, 40, 10),
]


def layouts():
    """Layouts of trees, each with points and numbers at its boxes' sides, between them and beyond."""
    chance = random.Random(61)
    for tree in trees_by_chance(61, 80, boxes=14):
        layout = laid(box_of(tree), part(chance.choice([0, 7, 30, 55, Fraction(121, 3), 200])))
        sides = {-1, Fraction(1, 7)}
        for _, x, y, wide, tall in layout:
            x, y, wide, tall = [fraction(one) for one in (x, y, wide, tall)]
            sides.update([x, x + wide, y, y + tall, x + wide / 2, y + tall / 2, x + wide - TINY, y + tall - TINY])
        yield layout, [chance.choice(sorted(sides)) for _ in range(12)]


LAYOUTS = list(layouts())


def spans(place_told):
    _, x, y, wide, tall = place_told
    return fraction(x), fraction(x) + fraction(wide), fraction(y), fraction(y) + fraction(tall)


def covering(layout, x, y):
    found = []
    for one in layout:
        left, right, upper, lower = spans(one)
        if left <= x < right and upper <= y < lower:
            found.append(one[0])
    return found


class AtPointTest(Case):

    def told(self, x, y, names):
        self.assertEqual(self.untouched(at_point, PAGE, part(x), part(y)), names)
        last = names[-1] if names else None
        self.assertEqual(self.untouched(innermost, PAGE, part(x), part(y)), last)

    def test_points(self):
        self.told(0, 0, ["page", "head"])
        self.told(50, 25, ["page", "text"])
        self.told(20, 10, ["page", "head", "logo"])
        self.told(95, 35, ["page", "text", "wide"])

    def test_a_box_has_the_points_from_its_x_and_y_on(self):
        self.told(10, 5, ["page", "head", "logo"])
        self.told(10 - TINY, 5, ["page", "head"])
        self.told(10, 5 - TINY, ["page", "head"])

    def test_a_box_has_the_points_below_its_other_sides_alone(self):
        self.told(30 + THIRD - TINY, 20 - TINY, ["page", "head", "logo"])
        self.told(30 + THIRD, 20 - TINY, ["page", "head"])
        self.told(20, 20, ["page", "text"])
        self.told(99, 50 - TINY, ["page", "text"])
        self.told(99, 50, [])
        self.told(100 - TINY, 49, ["page", "text"])
        self.told(100, 49, [])

    def test_where_nothing_is(self):
        for x, y in [(-1, 0), (0, -1), (-TINY, 0), (0, -TINY), (100, 0), (0, 50), (-5, -5), (10 ** 39, 10 ** 39)]:
            self.told(x, y, [])

    def test_a_box_that_stands_out_has_its_points_there_too(self):
        self.told(129, 39, ["wide"])
        self.told(130, 39, [])
        self.told(110, 29, [])

    def test_boxes_of_no_width_or_height_have_no_points(self):
        self.told(40, 10, ["page", "head"])
        self.told(55, 10, ["page", "head"])
        self.told(60, 10, ["page", "head"])

    def test_no_boxes(self):
        self.assertEqual(at_point([], (0, 1), (0, 1)), [])
        self.assertIs(innermost([], (0, 1), (0, 1)), None)

    def test_just_the_boxes_that_have_it_in_order(self):
        for layout, numbers in LAYOUTS:
            for x in numbers:
                for y in numbers:
                    names = covering(layout, x, y)
                    self.assertEqual(at_point(layout, part(x), part(y)), names)
                    self.assertEqual(innermost(layout, part(x), part(y)), names[-1] if names else None)

    def test_what_is_told_is_the_askers_own(self):
        layout = list(PAGE)
        at_point(layout, (0, 1), (0, 1)).clear()
        self.assertEqual(at_point(layout, (0, 1), (0, 1)), ["page", "head"])
        self.assertEqual(layout, PAGE)


class CrossingTest(Case):

    def told(self, x, y, wide, tall, names):
        self.assertEqual(self.untouched(crossing, PAGE, part(x), part(y), part(wide), part(tall)), names)

    def test_all_that_have_a_point(self):
        self.told(-10, -10, 1000, 1000, ["page", "head", "logo", "text", "wide"])
        self.told(0, 0, 100, 20, ["page", "head", "logo"])
        self.told(5, 15, 10, 10, ["page", "head", "logo", "text"])
        self.told(50, 25, 1, 1, ["page", "text"])

    def test_within_a_box_and_around_one(self):
        self.told(12, 6, TINY, TINY, ["page", "head", "logo"])
        self.told(9, 4, 100, 20, ["page", "head", "logo", "text"])

    def test_sides_that_touch_have_no_point_in_common(self):
        self.told(-5, 0, 5, 10, [])
        self.told(-5, 0, 5 + TINY, 10, ["page", "head"])
        self.told(0, -5, 10, 5, [])
        self.told(0, -5, 10, 5 + TINY, ["page", "head"])
        self.told(100, 0, 10, 10, [])
        self.told(100 - TINY, 0, 10, 10, ["page", "head"])
        self.told(0, 50, 10, 10, [])
        self.told(0, 50 - TINY, 10, 10, ["page", "text"])
        self.told(0, 0, 10, 20, ["page", "head"])
        self.told(30 + THIRD, 5, 5, 15, ["page", "head"])
        self.told(12, 20, 5, 5, ["page", "text"])

    def test_a_rectangle_without_width_or_height_tells_none(self):
        for x, y in [(0, 0), (20, 10), (40, 10), (55, 10)]:
            self.told(x, y, 0, 0, [])
            self.told(x, y, 0, 10, [])
            self.told(x, y, 10, 0, [])

    def test_boxes_of_no_width_or_height_are_crossed_by_none(self):
        self.told(30, 0, 50, 20, ["page", "head", "logo"])

    def test_by_points_in_common(self):
        for layout, numbers in LAYOUTS:
            for x, y, wide, tall in zip(numbers, numbers[1:], numbers[2:], numbers[3:]):
                wide, tall = abs(wide), abs(tall)
                names = []
                for one in layout:
                    left, right, upper, lower = spans(one)
                    # If two have points in common, the upper left corner of what they have is one.
                    left, upper = max(left, x), max(upper, y)
                    if left < right and left < x + wide and upper < lower and upper < y + tall:
                        names.append(one[0])
                self.assertEqual(crossing(layout, part(x), part(y), part(wide), part(tall)), names)

    def test_what_is_told_is_the_askers_own(self):
        layout = list(PAGE)
        crossing(layout, (0, 1), (0, 1), (1, 1), (1, 1)).clear()
        self.assertEqual(crossing(layout, (0, 1), (0, 1), (1, 1), (1, 1)), ["page", "head"])


class PlaceOfTest(Case):

    def test_each(self):
        for one in PAGE:
            self.assertEqual(self.untouched(place_of, PAGE, one[0]), one)

    def test_refused(self):
        for name in ["other", "", "pag", "pages", "Page", " page", "0"]:
            self.untouched(self.refused, NoName, place_of, PAGE, name)
            self.refused(NoName, place_of, [], name)


class BesideTest(Case):

    def told(self, one, other, answer):
        self.assertIs(self.untouched(beside, PAGE, one, other), answer)
        self.assertIs(beside(PAGE, other, one), answer)

    def test_spans_that_meet(self):
        self.told("page", "text", True)
        self.told("head", "logo", True)
        self.told("text", "wide", True)
        self.told("head", "thin", True)
        self.told("page", "thin", True)

    def test_spans_that_touch_or_are_apart(self):
        self.told("head", "text", False)
        self.told("logo", "text", False)
        self.told("logo", "wide", False)

    def test_a_box_without_height_has_no_y(self):
        for other in ("page", "head", "flat", "none", "logo"):
            self.told("flat", other, False)
            self.told("none", other, False)

    def test_a_box_and_itself(self):
        self.told("logo", "logo", True)
        self.told("thin", "thin", True)

    def test_all_pairs(self):
        for layout, _ in LAYOUTS[:30]:
            for one in layout:
                for other in layout:
                    _, _, upper, lower = spans(one)
                    _, _, other_upper, other_lower = spans(other)
                    answer = max(upper, other_upper) < min(lower, other_lower)
                    self.assertIs(beside(layout, one[0], other[0]), answer)

    def test_refused(self):
        for one, other in [("x", "page"), ("page", "x"), ("x", "x"), ("x", "y"), ("", "page"), ("flat", "x")]:
            self.untouched(self.refused, NoName, beside, PAGE, one, other)
            self.refused(NoName, beside, [], one, other)


if __name__ == "__main__":
    unittest.main()
