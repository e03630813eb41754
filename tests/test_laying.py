import itertools
import random
import unittest
from fractions import Fraction

from helpers import Case, fraction, knotted, odd_things, part
from trees import HAND, bends, trees_by_chance
from widthwise.boxes import box_of
from widthwise.errors import NoName, NoPart
from widthwise.laying import laid, lines_of, stands_out
from words import kids_told, laid_told, lines_told, trees_told

HALF = Fraction(1, 2)
GREAT = 10 ** 39
NO_SIZES = (0, 0, None, 0, 0)

# What is no part from 0 on.
NO_WIDTHS = [(-1, 1), (-1, 2), (-GREAT, 1), (2, 2), (0, 2), (4, 6), (1, 0), (0, 0), (1, -1), (-1, -1), [0, 1], [1, 2],
             (1,), (1, 2, 3), ((1, 1), 1), (True, 1), (1, True), (False, 1), ("1", 1), (1, "1"), (None, 1), (1, None),
             ([1], 1), (10 ** 5000, 10 ** 4999), "5", "1/2", 5, knotted(), (knotted(), 1)]


def plain(name, sizes, tall=1):
    return ("box", name, sizes, tall)


def fixed(name, size, tall=1):
    return plain(name, (size, size, size, 0, 0), tall)


def row(name, *kids, gap=0, lean="left", breaks=False, sizes=NO_SIZES):
    return ("row", name, sizes, gap, lean, breaks, kids)


def column(name, *kids, gap=0, lean="left", sizes=NO_SIZES):
    return ("column", name, sizes, gap, lean, kids)


def widths_for(tree, chance):
    """Widths of 0, at what may be bends of the tree, just below and above them, between them, and great ones."""
    found = {Fraction(0), Fraction(1, 3), Fraction(GREAT), Fraction(GREAT, 7), Fraction(1, GREAT)}
    ends = bends(tree)
    for end in chance.sample(ends, min(8, len(ends))):
        found.update([Fraction(end), abs(end - Fraction(1, GREAT)), end + Fraction(2, 7)])
    return sorted(found)


def cases():
    chance = random.Random(51)
    trees = HAND + trees_by_chance(51, 120, boxes=12, kids=5) + trees_by_chance(52, 25, boxes=40, kids=12)
    return [(tree, width) for tree in trees for width in widths_for(tree, chance)]


CASES = cases()


class LaidCase(Case):

    def told(self, tree, width, *rows):
        box = box_of(tree)
        found = laid(box, part(width))
        self.assertEqual(box.tree(), tree)
        self.assertEqual(found, [(one[0],) + tuple(part(number) for number in one[1:]) for one in rows])

    def lines(self, tree, width, name, *lines):
        box = box_of(tree)
        self.assertEqual(lines_of(box, part(width), name), list(lines))
        self.assertEqual(box.tree(), tree)


class LaidTest(LaidCase):

    def test_the_whole_is_as_wide_as_told_whatever_its_sizes(self):
        for width in (0, HALF, 1, 10, 2000, GREAT):
            self.told(fixed("a", 10, 7), width, ("a", 0, 0, width, 7))
            self.told(row("a", sizes=(10, 5, 20, 1, 2)), width, ("a", 0, 0, width, 0))
            self.told(column("a", sizes=(1000, 1000, 1000, 0, 0)), width, ("a", 0, 0, width, 0))

    def test_a_plain_is_tall_high(self):
        for tall in (0, 1, 1000):
            self.told(plain("a", NO_SIZES, tall), 5, ("a", 0, 0, 5, tall))

    def test_a_row_or_column_without_kids_has_no_height(self):
        for tree in (row("a", gap=9), row("a", gap=9, breaks=True), column("a", gap=9)):
            for width in (0, 5):
                self.told(tree, width, ("a", 0, 0, width, 0))

    def test_a_row_shares_its_width_less_a_gap_between_each_two(self):
        tree = row("a", plain("b", (10, 0, None, 1, 1), 3), plain("c", (20, 0, None, 3, 1), 5), fixed("d", 6, 4), gap=2)
        self.told(tree, 40, ("a", 0, 0, 40, 5), ("b", 0, 0, 10, 3), ("c", 12, 0, 20, 5), ("d", 34, 0, 6, 4))
        self.told(tree, 50, ("a", 0, 0, 50, 5), ("b", 0, 0, 12 + HALF, 3), ("c", 14 + HALF, 0, 27 + HALF, 5),
                  ("d", 44, 0, 6, 4))
        self.told(tree, 31, ("a", 0, 0, 31, 5), ("b", 0, 0, 5 + HALF, 3), ("c", 7 + HALF, 0, 15 + HALF, 5),
                  ("d", 25, 0, 6, 4))

    def test_a_room_of_0_and_below(self):
        tree = row("a", plain("b", (10, 0, None, 1, 1)), plain("c", (20, 3, None, 1, 1)), gap=5, lean="right")
        for width in (0, 5, 8):
            self.told(tree, width, ("a", 0, 0, width, 1), ("b", 0, 0, 0, 1), ("c", 5, 0, 3, 1))
        self.told(tree, 9, ("a", 0, 0, 9, 1), ("b", 0, 0, 0, 1), ("c", 5, 0, 4, 1))

    def test_lean_of_a_row(self):
        kids = (fixed("b", 10), fixed("c", 20))
        for lean, spare in [("left", 0), ("amid", Fraction(9, 2)), ("right", 9)]:
            tree = row("a", *kids, gap=3, lean=lean)
            self.told(tree, 42, ("a", 0, 0, 42, 1), ("b", spare, 0, 10, 1), ("c", spare + 13, 0, 20, 1))
            # Nothing is over, or something lacks: the line begins at the row's left.
            for width in (33, 30, 0):
                self.told(tree, width, ("a", 0, 0, width, 1), ("b", 0, 0, 10, 1), ("c", 13, 0, 20, 1))

    def test_a_row_that_breaks(self):
        kids = (fixed("b", 10, 3), fixed("c", 20, 5), fixed("d", 30, 2))
        tree = row("a", *kids, gap=4, breaks=True)
        self.told(tree, 68, ("a", 0, 0, 68, 5), ("b", 0, 0, 10, 3), ("c", 14, 0, 20, 5), ("d", 38, 0, 30, 2))
        self.told(tree, 67, ("a", 0, 0, 67, 11), ("b", 0, 0, 10, 3), ("c", 14, 0, 20, 5), ("d", 0, 9, 30, 2))
        self.told(tree, 34, ("a", 0, 0, 34, 11), ("b", 0, 0, 10, 3), ("c", 14, 0, 20, 5), ("d", 0, 9, 30, 2))
        self.told(tree, 33, ("a", 0, 0, 33, 18), ("b", 0, 0, 10, 3), ("c", 0, 7, 20, 5), ("d", 0, 16, 30, 2))
        self.told(tree, 0, ("a", 0, 0, 0, 18), ("b", 0, 0, 10, 3), ("c", 0, 7, 20, 5), ("d", 0, 16, 30, 2))

    def test_each_line_has_its_own_share_and_spare(self):
        kids = (plain("b", (10, 0, 12, 1, 1)), plain("c", (10, 0, 11, 1, 1)), plain("d", (18, 0, 19, 1, 1)))
        tree = row("a", *kids, lean="right", breaks=True)
        self.told(tree, 27, ("a", 0, 0, 27, 2), ("b", 4, 0, 12, 1), ("c", 16, 0, 11, 1), ("d", 8, 1, 19, 1))
        self.told(tree, 17, ("a", 0, 0, 17, 3), ("b", 5, 0, 12, 1), ("c", 6, 1, 11, 1), ("d", 0, 2, 17, 1))

    def test_lines_are_broken_by_wishes_not_by_leasts_or_mosts(self):
        kids = (plain("b", (10, 0, None, 1, 1)), plain("c", (10, 0, None, 1, 1)))
        self.told(row("a", *kids, breaks=True), 19, ("a", 0, 0, 19, 2), ("b", 0, 0, 19, 1), ("c", 0, 1, 19, 1))
        self.told(row("a", *kids, breaks=True), 20, ("a", 0, 0, 20, 1), ("b", 0, 0, 10, 1), ("c", 10, 0, 10, 1))

    def test_a_column(self):
        tree = column("a", plain("b", (0, 10, None, 0, 0)[:1] + (0, None, 0, 0), 3), fixed("c", 10, 5),
                      plain("d", (20, 8, 30, 9, 9), 2), gap=4)
        self.told(tree, 40, ("a", 0, 0, 40, 18), ("b", 0, 0, 40, 3), ("c", 0, 7, 10, 5), ("d", 0, 16, 30, 2))
        self.told(tree, 9, ("a", 0, 0, 9, 18), ("b", 0, 0, 9, 3), ("c", 0, 7, 10, 5), ("d", 0, 16, 9, 2))
        self.told(tree, 0, ("a", 0, 0, 0, 18), ("b", 0, 0, 0, 3), ("c", 0, 7, 10, 5), ("d", 0, 16, 8, 2))

    def test_lean_of_a_column(self):
        for lean, ahead in [("left", 0), ("amid", HALF), ("right", 1)]:
            tree = column("a", fixed("b", 10), plain("c", (20, 8, 30, 0, 0)), lean=lean)
            self.told(tree, 37, ("a", 0, 0, 37, 2), ("b", 27 * ahead, 0, 10, 1), ("c", 7 * ahead, 1, 30, 1))
            self.told(tree, 10, ("a", 0, 0, 10, 2), ("b", 0, 0, 10, 1), ("c", 0, 1, 10, 1))
            self.told(tree, 9, ("a", 0, 0, 9, 2), ("b", 0, 0, 10, 1), ("c", 0, 1, 9, 1))
            self.told(tree, 5, ("a", 0, 0, 5, 2), ("b", 0, 0, 10, 1), ("c", 0, 1, 8, 1))

    def test_boxes_within_one_another(self):
        inner = row("c", fixed("d", 4, 2), fixed("e", 4, 3), gap=1, breaks=True, lean="right", sizes=(9, 0, 9, 1, 1))
        tree = column("a", fixed("b", 5, 7), row("f", fixed("g", 2, 1), inner, gap=1), gap=2, lean="amid")
        self.told(tree, 13, ("a", 0, 0, 13, 12), ("b", 4, 0, 5, 7), ("f", 0, 9, 13, 3), ("g", 0, 9, 2, 1),
                  ("c", 3, 9, 9, 3), ("d", 3, 9, 4, 2), ("e", 8, 9, 4, 3))
        self.told(tree, 11, ("a", 0, 0, 11, 15), ("b", 3, 0, 5, 7), ("f", 0, 9, 11, 6), ("g", 0, 9, 2, 1),
                  ("c", 3, 9, 8, 6), ("d", 7, 9, 4, 2), ("e", 7, 12, 4, 3))

    def test_by_the_words(self):
        for tree, width in CASES:
            self.told(tree, width, *laid_told(tree, width))

    def test_boxes_of_one_parent_never_overlap_and_stand_within_it_or_stand_out(self):
        for tree, width in CASES[::3]:
            layout = laid(box_of(tree), part(width))
            places = {one[0]: [fraction(number) for number in one[1:]] for one in layout}
            out = stands_out(box_of(tree), part(width))
            for one in trees_told(tree):
                x, y, wide, tall = places[one[1]]
                for kid in kids_told(one):
                    left, upper, kid_wide, kid_tall = places[kid[1]]
                    self.assertTrue(x <= left and y <= upper and upper + kid_tall <= y + tall)
                    self.assertIs(left + kid_wide > x + wide, kid[1] in out)
                for kid, other in itertools.combinations(kids_told(one), 2):
                    left, upper, kid_wide, kid_tall = places[kid[1]]
                    behind, below, _, _ = places[other[1]]
                    self.assertTrue(left + kid_wide <= behind or upper + kid_tall <= below)

    def test_all_is_told_in_parts_in_lowest_terms(self):
        for tree, width in CASES[::5]:
            found = laid(box_of(tree), part(width))
            self.assertIs(found.__class__, list)
            for one in found:
                self.assertIs(one.__class__, tuple)
                for number in one[1:]:
                    self.plain_part(number)

    def test_refused(self):
        box = box_of(row("a", fixed("b", 10)))
        for width in NO_WIDTHS + odd_things():
            self.refused(NoPart, laid, box, width)
        for width in NO_WIDTHS[:-2]:
            self.untouched(self.refused, NoPart, lambda one: laid(box, one), width)

    def test_the_list_told_is_the_askers_own(self):
        box = box_of(row("a", fixed("b", 10), column("c", fixed("d", 1))))
        first = laid(box, (5, 1))
        again = laid(box, (5, 1))
        first.clear()
        self.assertEqual(laid(box, (5, 1)), again)
        self.assertEqual(len(again), 4)


class LinesOfTest(LaidCase):

    TREE = column("a", row("b", fixed("c", 10), fixed("d", 20), fixed("e", 30), gap=5, breaks=True, sizes=(0, 0, 35, 0, 0)),
                  row("f", fixed("g", 50), fixed("h", 50)), row("i"), row("j", breaks=True), column("k"), fixed("l", 5))

    def test_rows_that_break(self):
        self.lines(self.TREE, 100, "b", ["c", "d"], ["e"])
        self.lines(self.TREE, 35, "b", ["c", "d"], ["e"])
        self.lines(self.TREE, 35 - Fraction(1, GREAT), "b", ["c"], ["d"], ["e"])
        self.lines(self.TREE, 0, "b", ["c"], ["d"], ["e"])

    def test_a_row_that_does_not_break_has_one_line(self):
        for width in (0, 50, 100):
            self.lines(self.TREE, width, "f", ["g", "h"])

    def test_of_a_column_each_kid_has_its_own(self):
        for width in (0, 50, 100):
            self.lines(self.TREE, width, "a", ["b"], ["f"], ["i"], ["j"], ["k"], ["l"])

    def test_without_kids_there_are_none(self):
        for name in ("i", "j", "k", "l", "c", "h"):
            self.lines(self.TREE, 20, name)

    def test_the_lines_are_those_at_the_width_that_the_box_has_there(self):
        inner = row("b", fixed("c", 10), fixed("d", 10), breaks=True, sizes=(30, 0, 30, 0, 1))
        tree = row("a", inner, fixed("e", 10))
        self.lines(tree, 30, "b", ["c", "d"])
        self.lines(tree, 29, "b", ["c"], ["d"])
        self.lines(tree, 29, "a", ["b", "e"])

    def test_by_the_words(self):
        for tree, width in CASES[::4]:
            box = box_of(tree)
            wides = {one[0]: one[3] for one in laid_told(tree, width)}
            for one in trees_told(tree):
                lines = [[kid[1] for kid in line] for line in lines_told(one, wides[one[1]])]
                self.assertEqual(lines_of(box, part(width), one[1]), lines)

    def test_refused(self):
        box = box_of(self.TREE)
        for name in ["x", "", "A", "box", "ab", "a ", "bb"]:
            self.refused(NoName, lines_of, box, (5, 1), name)
        for width in NO_WIDTHS + odd_things():
            self.refused(NoPart, lines_of, box, width, "b")
            self.refused(NoPart, lines_of, box, width, "x")

    def test_the_lists_told_are_the_askers_own(self):
        box = box_of(self.TREE)
        for name, many in [("a", 6), ("b", 2), ("f", 1), ("l", 0)]:
            first = lines_of(box, (100, 1), name)
            for line in first:
                line.clear()
            first.append("x")
            self.assertEqual(len(lines_of(box, (100, 1), name)), many)
            self.assertTrue(all(lines_of(box, (100, 1), name)))
        self.assertEqual(box.tree(), self.TREE)


class StandsOutTest(LaidCase):

    def told(self, tree, width, *names):
        box = box_of(tree)
        self.assertEqual(stands_out(box, part(width)), list(names))
        self.assertEqual(box.tree(), tree)

    def test_the_whole_never_does(self):
        for width in (0, 5):
            self.told(fixed("a", 10), width)
            self.told(row("a", sizes=(10, 10, None, 0, 0)), width)

    def test_beyond_the_right_side_of_the_box_around(self):
        tree = row("a", fixed("b", 10), fixed("c", 20), fixed("d", 0), gap=5)
        self.told(tree, 40)
        self.told(tree, 40 - Fraction(1, GREAT), "d")
        self.told(tree, 35, "d")
        self.told(tree, 35 - Fraction(1, GREAT), "c", "d")
        self.told(tree, 10, "c", "d")
        self.told(tree, Fraction(19, 2), "b", "c", "d")
        self.told(tree, 0, "b", "c", "d")

    def test_in_columns(self):
        tree = column("a", fixed("b", 10), plain("c", NO_SIZES), fixed("d", 20), lean="right")
        self.told(tree, 20)
        self.told(tree, 10, "d")
        self.told(tree, Fraction(19, 2), "b", "d")

    def test_a_box_of_no_width_just_at_the_side_does_not(self):
        self.told(row("a", fixed("b", 10), fixed("c", 0)), 10)
        self.told(row("a", fixed("b", 10), fixed("c", 0)), 9, "b", "c")

    def test_the_box_around_is_what_counts_not_the_whole(self):
        inner = row("b", fixed("c", 20, 1), sizes=(10, 10, 10, 0, 0))
        self.told(row("a", inner, fixed("d", 50)), 100, "c")
        # One that stands out of the whole need not stand out of the box that is around it.
        wide = row("b", fixed("c", 20), sizes=(20, 20, 20, 0, 0))
        self.told(row("a", wide), 10, "b")

    def test_in_order(self):
        tree = row("z", row("y", fixed("x", 20), sizes=(10, 10, 10, 0, 0)), fixed("c", 9), column("b", fixed("a", 30)))
        self.told(tree, 5, "y", "x", "c", "b", "a")
        self.told(tree, 19, "x", "a")

    def test_by_the_words(self):
        for tree, width in CASES:
            rights = {name: x + wide for name, x, _, wide, _ in laid_told(tree, width)}
            around = {kid[1]: one[1] for one in trees_told(tree) for kid in kids_told(one)}
            names = [one[1] for one in trees_told(tree)]
            self.told(tree, width, *[name for name in names[1:] if rights[name] > rights[around[name]]])

    def test_refused(self):
        box = box_of(row("a", fixed("b", 10)))
        for width in NO_WIDTHS + odd_things():
            self.refused(NoPart, stands_out, box, width)

    def test_the_list_told_is_the_askers_own(self):
        box = box_of(row("a", fixed("b", 10)))
        stands_out(box, (5, 1)).clear()
        self.assertEqual(stands_out(box, (5, 1)), ["b"])


if __name__ == "__main__":
    unittest.main()
