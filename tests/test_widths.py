import random
import unittest
from fractions import Fraction

from helpers import Case, calls, fraction, knotted, odd_things, part
from test_laying import NO_WIDTHS, column, fixed, plain, row
from test_sharing import LINES, NO_ITEMS
from trees import BREAKING_ROWS, FOUR_HUNDRED, HAND, bends, nested_by_chance, trees_by_chance
from widthwise.boxes import box_of
from widthwise.errors import NoItem, NoPart, TooMany
from widthwise.laying import laid
from widthwise.sharing import shared
from widthwise.texts import read_box
from widthwise.widths import all_laid, line_at, read_at, share_pieces
from words import laid_told, share_told, width_told

GREAT = 10 ** 39
HALF = Fraction(1, 2)


def line(begin, pace):
    """The line that begins with a number at width 0, and grows at a pace from there."""
    return part(begin), part(pace)


def worth(told, width):
    """What a line tells at a width, a Fraction."""
    return fraction(told[0]) + fraction(told[1]) * width


def asked(lows):
    """Numbers at the lows of pieces, between them, just below and just above them, rising; each with its piece."""
    lows = [fraction(low) for low in lows]
    found = []
    for at, low in enumerate(lows):
        length = (lows[at + 1] - low) if at + 1 < len(lows) else Fraction(1000)
        for ahead in (0, Fraction(1, GREAT), Fraction(1, 3), HALF, Fraction(6, 7), 1 - Fraction(1, GREAT)):
            found.append((low + length * ahead, at))
    found.append((lows[-1] + GREAT, len(lows) - 1))
    return found


class WidthsCase(Case):

    def formed(self, pieces):
        """Lows are parts that rise from 0, and two neighbours aren't alike."""
        self.assertIs(pieces.__class__, list)
        self.assertEqual(pieces[0][0], (0, 1))
        for piece in pieces:
            self.assertIs(piece.__class__, tuple)
            self.plain_part(piece[0])
        for (low, told), (high, behind) in zip(pieces, pieces[1:]):
            self.assertLess(fraction(low), fraction(high))
            self.assertNotEqual(told, behind)

    def plain_line(self, told):
        self.assertIs(told.__class__, tuple)
        self.assertEqual(len(told), 2)
        self.plain_part(told[0])
        self.plain_part(told[1])
        # What grows with the width is the second one, and never falls.
        self.assertGreaterEqual(told[1][0], 0)


class LineAtTest(Case):

    def test_lines(self):
        told = [((0, 0), 5, 0), ((0, 1), 5, 5), ((3, 0), 5, 3), ((-3, 2), 5, 7), ((Fraction(1, 3), HALF), 5, Fraction(17, 6)),
                ((-5, 1), 5, 0), ((1, 3), 0, 1), ((1, -1), 3, -2), ((0, Fraction(1, 3)), GREAT, Fraction(GREAT, 3))]
        for (begin, pace), width, worth_told in told:
            found = self.untouched(line_at, line(begin, pace), part(width))
            self.plain_part(found)
            self.assertEqual(found, part(worth_told))

    def test_the_first_one_is_told_at_width_0_and_the_second_one_grows(self):
        self.assertEqual(line_at(((3, 1), (1, 2)), (4, 1)), (5, 1))
        self.assertEqual(line_at(((7, 1), (0, 1)), (9, 1)), (7, 1))
        self.assertEqual(line_at(((0, 1), (1, 1)), (9, 1)), (9, 1))


class SharePiecesTest(WidthsCase):

    def told(self, items, *pieces):
        expected = [(part(low), [line(begin, pace) for begin, pace in lines]) for low, lines in pieces]
        self.assertEqual(self.untouched(share_pieces, items), expected)

    def test_no_items(self):
        self.told([], (0, []))

    def test_one_item(self):
        self.told([(10, 5, 20, 1, 1)], (0, [(5, 0)]), (5, [(0, 1)]), (20, [(20, 0)]))
        self.told([(10, 5, None, 1, 1)], (0, [(5, 0)]), (5, [(0, 1)]))
        self.told([(10, 0, None, 1, 1)], (0, [(0, 1)]))
        self.told([(10, 5, 20, 0, 1)], (0, [(5, 0)]), (5, [(0, 1)]), (10, [(10, 0)]))
        self.told([(10, 5, 20, 1, 0)], (0, [(10, 0)]), (10, [(0, 1)]), (20, [(20, 0)]))
        self.told([(10, 5, 20, 0, 0)], (0, [(10, 0)]))
        self.told([(10, 10, 10, 3, 3)], (0, [(10, 0)]))
        self.told([(0, 0, 0, 3, 3)], (0, [(0, 0)]))
        self.told([(0, 0, None, 3, 3)], (0, [(0, 1)]))

    def test_where_the_wishes_are_met_nothing_ends_if_all_goes_on_evenly(self):
        # Two that take as they give.
        self.told([(10, 0, None, 1, 1), (10, 0, None, 1, 1)], (0, [(0, HALF), (0, HALF)]))
        self.told([(10, 5, None, 1, 1), (10, 5, None, 1, 1)], (0, [(5, 0), (5, 0)]), (10, [(0, HALF), (0, HALF)]))

    def test_shares_change_where_the_wishes_are_met(self):
        third = Fraction(1, 3)
        self.told([(10, 0, None, 2, 1), (10, 0, None, 1, 1)],
                  (0, [(0, HALF), (0, HALF)]), (20, [(-10 * third, 2 * third), (10 * third, third)]))

    def test_an_item_at_its_most_leaves_room_to_others(self):
        self.told([(0, 0, 5, 1, 0), (0, 0, None, 1, 0)], (0, [(0, HALF), (0, HALF)]), (10, [(5, 0), (-5, 1)]))

    def test_an_item_at_its_least_leaves_others_to_give(self):
        self.told([(10, 6, 10, 0, 1), (10, 0, 10, 0, 1)],
                  (0, [(6, 0), (0, 0)]), (6, [(6, 0), (-6, 1)]), (12, [(0, HALF), (0, HALF)]), (20, [(10, 0), (10, 0)]))

    def test_at_each_room_what_is_shared(self):
        for items in LINES[::6]:
            pieces = self.untouched(share_pieces, items)
            self.formed(pieces)
            for _, lines in pieces:
                self.assertIs(lines.__class__, list)
                for told in lines:
                    self.plain_line(told)
            for room, at in asked([low for low, _ in pieces]):
                share = share_told(items, room)
                self.assertEqual([worth(told, room) for told in pieces[at][1]], [width_told(item, share) for item in items])
                self.assertEqual([line_at(told, part(room)) for told in pieces[at][1]], shared(items, part(room))[1])

    def test_how_many_calls_are_made(self):
        for kids in ROWS_OF_TWELVE:
            items = [kid[2] for kid in kids]
            self.assertLess(calls(share_pieces, items), 3000)

    def test_refused(self):
        good = (10, 5, 20, 1, 2)
        for thing in NO_ITEMS + odd_things() + [knotted()]:
            self.refused(NoItem, share_pieces, [thing])
            self.refused(NoItem, share_pieces, [good, thing])
            self.refused(NoItem, share_pieces, [thing, good])
        for thing in odd_things() + [good, (good,), {good}, {good: 1}, "12345", ()]:
            self.refused(NoItem, share_pieces, thing)

    def test_the_lists_told_are_the_askers_own(self):
        items = [(10, 5, 20, 1, 2), (7, 0, None, 3, 3)]
        expected = share_pieces(items)
        first = share_pieces(items)
        first[0][1].clear()
        first.pop()
        self.assertEqual(share_pieces(items), expected)


BREAKING = read_box(BREAKING_ROWS).tree()
ROWS_OF_TWELVE = [kid[-1] for kid in BREAKING[-1]]
TREES = HAND + trees_by_chance(71, 110, boxes=14, kids=5) + trees_by_chance(72, 12) + nested_by_chance(73, 12, 3, 4)
LARGE = nested_by_chance(74, 4, 4, 5) + nested_by_chance(75, 2, 5, 6)


class AllLaidTest(WidthsCase):

    def told(self, tree, *pieces):
        expected = []
        for low, rows in pieces:
            expected.append((part(low), [(name, line(*x), part(y), line(*wide), part(tall)) for name, x, y, wide, tall in rows]))
        self.assertEqual(all_laid(box_of(tree)), expected)

    def test_a_plain(self):
        self.told(fixed("a", 10, 7), (0, [("a", (0, 0), 0, (0, 1), 7)]))

    def test_without_kids(self):
        for tree in (row("a", gap=9), row("a", gap=9, breaks=True), column("a", gap=9)):
            self.told(tree, (0, [("a", (0, 0), 0, (0, 1), 0)]))

    def test_a_row(self):
        tree = row("a", plain("b", (10, 5, 20, 1, 1), 3), fixed("c", 6, 2), gap=4, lean="amid")
        whole = ("a", (0, 0), 0, (0, 1), 3)
        self.told(tree, (0, [whole, ("b", (0, 0), 0, (5, 0), 3), ("c", (9, 0), 0, (6, 0), 2)]),
                  (15, [whole, ("b", (0, 0), 0, (-10, 1), 3), ("c", (-6, 1), 0, (6, 0), 2)]),
                  (30, [whole, ("b", (-15, HALF), 0, (20, 0), 3), ("c", (9, HALF), 0, (6, 0), 2)]))

    def test_a_row_whose_kids_do_not_grow(self):
        for lean, ahead in [("left", 0), ("amid", HALF), ("right", 1)]:
            first = [("a", (0, 0), 0, (0, 1), 1), ("b", (0, 0), 0, (10, 0), 1)]
            second = [("a", (0, 0), 0, (0, 1), 1), ("b", (-10 * ahead, ahead), 0, (10, 0), 1)]
            pieces = [(0, first)] if lean == "left" else [(0, first), (10, second)]
            self.told(row("a", fixed("b", 10), lean=lean), *pieces)

    def test_a_row_that_breaks(self):
        tree = row("a", fixed("b", 10, 3), fixed("c", 20, 5), fixed("d", 30, 2), gap=4, breaks=True)
        b = ("b", (0, 0), 0, (10, 0), 3)
        self.told(tree, (0, [("a", (0, 0), 0, (0, 1), 18), b, ("c", (0, 0), 7, (20, 0), 5), ("d", (0, 0), 16, (30, 0), 2)]),
                  (34, [("a", (0, 0), 0, (0, 1), 11), b, ("c", (14, 0), 0, (20, 0), 5), ("d", (0, 0), 9, (30, 0), 2)]),
                  (68, [("a", (0, 0), 0, (0, 1), 5), b, ("c", (14, 0), 0, (20, 0), 5), ("d", (38, 0), 0, (30, 0), 2)]))

    def test_a_column(self):
        tree = column("a", plain("b", (20, 8, 30, 9, 9), 2), plain("c", (0, 0, None, 0, 0), 3), gap=1, lean="right")
        whole = ("a", (0, 0), 0, (0, 1), 6)
        c = ("c", (0, 0), 3, (0, 1), 3)
        self.told(tree, (0, [whole, ("b", (0, 0), 0, (8, 0), 2), c]), (8, [whole, ("b", (0, 0), 0, (0, 1), 2), c]),
                  (30, [whole, ("b", (-30, 1), 0, (30, 0), 2), c]))

    def test_the_ends_of_a_box_that_grows_at_another_pace_than_the_whole(self):
        inner = row("b", fixed("c", 4, 1), fixed("d", 6, 1), breaks=True, sizes=(0, 0, None, 1, 0))
        tree = row("a", inner, plain("e", (0, 0, None, 2, 0), 1))
        third = Fraction(1, 3)
        whole = ("a", (0, 0), 0, (0, 1))
        self.told(
            tree,
            (0, [whole + (2,), ("b", (0, 0), 0, (0, third), 2), ("c", (0, 0), 0, (4, 0), 1), ("d", (0, 0), 1, (6, 0), 1),
                 ("e", (0, third), 0, (0, 2 * third), 1)]),
            (30, [whole + (1,), ("b", (0, 0), 0, (0, third), 1), ("c", (0, 0), 0, (4, 0), 1), ("d", (4, 0), 0, (6, 0), 1),
                  ("e", (0, third), 0, (0, 2 * third), 1)]))

    def test_a_box_that_gets_less_wide_from_one_piece_to_the_next_comes_to_its_ends_again(self):
        inner = row("b", fixed("c", 4, 1), fixed("d", 6, 1), breaks=True, sizes=(5, 0, None, 1, 1))
        tree = row("a", inner, plain("e", (15, 15, 15, 0, 0), 1), breaks=True)
        self.assertEqual([low for low, _ in all_laid(box_of(tree))], [(0, 1), (10, 1), (20, 1), (25, 1)])

    def test_at_each_width_what_is_laid_out_there(self):
        for tree in TREES:
            box = box_of(tree)
            pieces = all_laid(box)
            self.assertEqual(box.tree(), tree)
            self.formed(pieces)
            for width, at in asked([low for low, _ in pieces]):
                rows = [(name, worth(x, width), fraction(y), worth(wide, width), fraction(tall))
                        for name, x, y, wide, tall in pieces[at][1]]
                self.assertEqual(rows, laid_told(tree, width), (tree, width))

    def test_rows_have_lines_that_never_fall_and_parts(self):
        for tree in TREES[::3] + LARGE:
            for _, rows in all_laid(box_of(tree)):
                self.assertIs(rows.__class__, list)
                for told in rows:
                    self.assertIs(told.__class__, tuple)
                    _, x, y, wide, tall = told
                    self.plain_line(x)
                    self.plain_line(wide)
                    self.plain_part(y)
                    self.plain_part(tall)

    def test_large_trees(self):
        chance = random.Random(76)
        for tree in LARGE:
            pieces = all_laid(box_of(tree))
            self.formed(pieces)
            points = asked([low for low, _ in pieces])
            for width, at in chance.sample(points, min(150, len(points))):
                told = read_at(pieces[at:at + 1], part(width))
                self.assertEqual(told, laid(box_of(tree), part(width)))

    def test_400_pieces_are_told(self):
        box = read_box(FOUR_HUNDRED)
        pieces = all_laid(box)
        self.assertEqual(len(pieces), 400)
        self.formed(pieces)
        chance = random.Random(77)
        for width, at in chance.sample(asked([low for low, _ in pieces]), 300):
            self.assertEqual(read_at(pieces[at:at + 1], part(width)), laid(box, part(width)))

    def test_more_than_400_are_refused(self):
        tree = read_box(FOUR_HUNDRED).tree()
        evenly = column("page", tree, plain("even", (0, 0, None, 0, 0)))
        self.assertEqual(len(all_laid(box_of(evenly))), 400)
        one_more = column("page", tree, plain("bent", (0, 0, 1000, 0, 0)))
        self.refused(TooMany, all_laid, box_of(one_more))

    def test_far_more_than_400_are_refused(self):
        # Whenever a row breaks otherwise, the row in it goes through all its own widths again.
        tree = fixed("last", 1)
        for depth in range(5):
            kids = [fixed(f"p{depth}{at}", min(5 ** (depth + 1), 1000) - at, at) for at in range(5)]
            tree = row(f"r{depth}", *kids[:2], tree, *kids[2:], breaks=True, sizes=(1, 0, None, 20, 20), gap=1)
        self.refused(TooMany, all_laid, box_of(tree))

    def test_rows_of_twelve_that_break(self):
        chance = random.Random(78)
        for lean, tree in zip(["left", "amid", "right"], BREAKING[-1]):
            tree = tree[:4] + (lean,) + tree[5:]
            pieces = all_laid(box_of(tree))
            self.formed(pieces)
            for width, at in chance.sample(asked([low for low, _ in pieces]), 150):
                rows = [(name, worth(x, width), fraction(y), worth(wide, width), fraction(tall))
                        for name, x, y, wide, tall in pieces[at][1]]
                self.assertEqual(rows, laid_told(tree, width), (tree, width))

    def test_a_column_of_rows_that_break(self):
        self.refused(TooMany, all_laid, box_of(BREAKING))
        # The lows of two of its rows are those of either, for each row is as wide as the whole.
        two = BREAKING[:-1] + (BREAKING[-1][:2],)
        lows = set()
        for kid in two[-1]:
            lows.update([low for low, _ in all_laid(box_of(kid))])
        self.assertEqual([fraction(low) for low, _ in all_laid(box_of(two))], sorted([fraction(low) for low in lows]))

    def test_how_many_calls_are_made(self):
        # An end is to cost what goes on otherwise there, and not a layout of the whole: that took 12 million calls.
        self.assertLess(calls(self.refused, TooMany, all_laid, box_of(BREAKING)), 200000)
        self.assertLess(calls(all_laid, box_of(BREAKING[-1][0])), 100000)
        self.assertLess(calls(all_laid, read_box(FOUR_HUNDRED)), 300000)

    def test_the_lists_told_are_the_askers_own(self):
        box = box_of(TREES[-1])
        expected = all_laid(box)
        first = all_laid(box)
        for _, rows in first:
            rows.clear()
        first.clear()
        self.assertEqual(all_laid(box), expected)


class ReadAtTest(WidthsCase):

    PIECES = [((0, 1), [("a", ((0, 1), (0, 1)), (0, 1), ((0, 1), (1, 1)), (5, 1))]),
              ((5, 2), [("a", ((1, 3), (1, 2)), (2, 1), ((-1, 1), (2, 1)), (7, 1))]),
              ((9, 1), [("a", ((3, 1), (0, 1)), (4, 1), ((8, 1), (0, 1)), (9, 1))])]

    def told(self, width, *numbers):
        expected = [("a",) + tuple(part(number) for number in numbers)]
        self.assertEqual(self.untouched(read_at, self.PIECES, part(width)), expected)

    def test_from_a_low_on_below_the_next_one(self):
        self.told(0, 0, 0, 0, 5)
        self.told(2, 0, 0, 2, 5)
        self.told(Fraction(5, 2) - Fraction(1, GREAT), 0, 0, Fraction(5, 2) - Fraction(1, GREAT), 5)
        self.told(Fraction(5, 2), Fraction(19, 12), 2, 4, 7)
        self.told(Fraction(26, 3), Fraction(14, 3), 2, Fraction(49, 3), 7)
        self.told(9, 3, 4, 8, 9)
        self.told(GREAT, 3, 4, 8, 9)

    def test_what_laid_tells(self):
        for tree in TREES[::4]:
            box = box_of(tree)
            pieces = all_laid(box)
            widths = [fraction(low) for low, _ in pieces][:10] + [Fraction(end) for end in bends(tree)][:20]
            for width in widths:
                for near in (width, width + Fraction(1, GREAT), abs(width - Fraction(1, GREAT)), width + Fraction(2, 7)):
                    self.assertEqual(self.untouched(read_at, pieces, part(near)), laid(box, part(near)))

    def test_refused(self):
        for width in NO_WIDTHS + odd_things():
            self.refused(NoPart, read_at, self.PIECES, width)

    def test_the_list_told_is_the_askers_own(self):
        first = read_at(self.PIECES, (1, 1))
        first.clear()
        self.told(1, 0, 0, 1, 5)


if __name__ == "__main__":
    unittest.main()
