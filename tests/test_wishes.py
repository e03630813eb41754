import copy
import random
import unittest
from fractions import Fraction

from helpers import Case, calls, fraction, knotted, odd_things, part
from test_laying import NO_WIDTHS, column, fixed, plain, row
from trees import BREAKING_ROWS, FOUR_HUNDRED, HAND, bends, nested_by_chance, trees_by_chance
from widthwise.boxes import box_of
from widthwise.errors import NoName, NoPart, NoWish, TooMany
from widthwise.spans import has, is_spans
from widthwise.texts import read_box
from widthwise.wishes import Both, Either, InLines, Not, Same, Wide, Wish, Within
from words import kids_told, laid_told, lines_told, trees_told

GREAT = 10 ** 39
TINY = Fraction(1, GREAT)
KINDS = [Wide, InLines, Within, Same, Both, Either, Not]
NO_NAMES = ["", "A", "0a", "abcdefghi", "a b", "a-b", "box", "row", "column", "left", "amid", "right", "breaks", "a\n",
            "\u00e9", b"a", ("a",), ["a"], {"a"}, {"a": 1}]
NO_COUNTS = [-1, -GREAT, True, False, None, "1", "", (1,), (1, 1), [1], {1: 1}, b"1"]


def holds_told(told, tree, width):
    """Whether a wish that tells so holds, by the words of point 81."""
    if told[0] == "both":
        return holds_told(told[1], tree, width) and holds_told(told[2], tree, width)
    if told[0] == "either":
        return holds_told(told[1], tree, width) or holds_told(told[2], tree, width)
    if told[0] == "not":
        return not holds_told(told[1], tree, width)
    places = {place[0]: place[1:] for place in laid_told(tree, width)}
    x, y, wide, _ = places[told[1]]
    if told[0] == "wide":
        return wide >= told[2]
    if told[0] == "same":
        return y == places[told[2]][1]
    if told[0] == "inlines":
        named = [one for one in trees_told(tree) if one[1] == told[1]][0]
        return len(lines_told(named, wide)) <= told[2]
    around = [one for one in trees_told(tree) if told[1] in [kid[1] for kid in kids_told(one)]]
    return not around or x + wide <= places[around[0][1]][0] + places[around[0][1]][2]


def wish_by_chance(chance, names, depth=0):
    kind = chance.choice(KINDS if depth < 3 else KINDS[:4])
    name = chance.choice(names)
    if kind is Wide:
        return Wide(name, chance.choice([0, 1, 5, 10, 20, 33, 60]))
    if kind is InLines:
        return InLines(name, chance.choice([0, 1, 1, 2, 2, 3, 5]))
    if kind is Within:
        return Within(name)
    if kind is Same:
        return Same(name, chance.choice(names))
    if kind is Not:
        return Not(wish_by_chance(chance, names, depth + 1))
    return kind(wish_by_chance(chance, names, depth + 1), wish_by_chance(chance, names, depth + 1))


TREE = column(
    "a", row("b", fixed("c", 10, 3), fixed("d", 20, 5), plain("e", (30, 15, 40, 1, 1), 2), gap=5, breaks=True),
    plain("f", (10, 8, 12, 1, 1), 4))


class MadeTest(Case):

    def test_kinds(self):
        for kind in KINDS:
            self.assertTrue(issubclass(kind, Wish))
            for other in KINDS:
                self.assertIs(issubclass(kind, other), kind is other)

    def test_told(self):
        wide = Wide("a", 5)
        told = [
            (wide, ("wide", "a", 5)), (Wide("a", 0), ("wide", "a", 0)), (Wide("z9", 10 ** 50), ("wide", "z9", 10 ** 50)),
            (InLines("a", 0), ("inlines", "a", 0)), (InLines("abcdefgh", 7), ("inlines", "abcdefgh", 7)),
            (Within("a"), ("within", "a")), (Same("a", "b"), ("same", "a", "b")), (Same("b", "a"), ("same", "b", "a")),
            (Same("a", "a"), ("same", "a", "a")), (Both(wide, Within("b")), ("both", ("wide", "a", 5), ("within", "b"))),
            (Either(Within("b"), wide), ("either", ("within", "b"), ("wide", "a", 5))), (Not(wide), ("not", ("wide", "a", 5))),
            (Not(Not(Both(wide, wide))), ("not", ("not", ("both", ("wide", "a", 5), ("wide", "a", 5))))),
        ]
        for wish, tuple_told in told:
            self.assertEqual(wish.told(), tuple_told)
            self.assertIs(wish.told().__class__, tuple)
            self.assertIsInstance(wish, Wish)

    def test_names_that_are_none(self):
        for name in NO_NAMES + odd_things() + [knotted()]:
            self.refused(NoWish, Wide, name, 5)
            self.refused(NoWish, InLines, name, 5)
            self.refused(NoWish, Within, name)
            self.refused(NoWish, Same, name, "a")
            self.refused(NoWish, Same, "a", name)
            self.refused(NoWish, Same, name, name)

    def test_numbers_that_are_none(self):
        for number in NO_COUNTS + odd_things() + [knotted()]:
            if number.__class__ is not int or number < 0:
                self.refused(NoWish, Wide, "a", number)
                self.refused(NoWish, InLines, "a", number)
                self.refused(NoWish, Wide, "box", number)

    def test_wishes_that_are_none(self):
        good = Wide("a", 5)
        for thing in odd_things() + [knotted(), good.told(), ("within", "a"), "a", Wide, Wish, [good], (good,)]:
            self.refused(NoWish, Both, thing, good)
            self.refused(NoWish, Both, good, thing)
            self.refused(NoWish, Both, thing, thing)
            self.refused(NoWish, Either, thing, good)
            self.refused(NoWish, Either, good, thing)
            self.refused(NoWish, Not, thing)

    def test_a_bare_wish_is_not_made(self):
        self.refused(NoWish, Wish)


class WishCase(Case):

    def told(self, tree, wish, *spans):
        """The widths at which a wish holds for a tree, told as pairs of Fractions."""
        box = box_of(tree)
        expected = [(part(low), None if high is None else part(high)) for low, high in spans]
        self.assertEqual(wish.widths(box), expected)
        self.assertEqual(box.tree(), tree)
        told = wish.told()
        for low, high in expected:
            ends = [low] if high is None else [low, high]
            for end in ends:
                for width in (fraction(end), fraction(end) + TINY, abs(fraction(end) - TINY)):
                    self.assertIs(wish.holds(box, part(width)), has(expected, part(width)))
        self.assertIs(wish.told(), told)


class EachTest(WishCase):

    def test_wide(self):
        self.told(TREE, Wide("a", 0), (0, None))
        self.told(TREE, Wide("a", 7), (7, None))
        self.told(TREE, Wide("a", GREAT), (GREAT, None))
        self.told(TREE, Wide("c", 10), (0, None))
        self.told(TREE, Wide("c", 11))
        self.told(TREE, Wide("f", 8), (0, None))
        self.told(TREE, Wide("f", 9), (9, None))
        self.told(TREE, Wide("f", 12), (12, None))
        self.told(TREE, Wide("f", 13))

    def test_wide_of_a_box_that_gets_less_wide_between_pieces(self):
        # e stands in a line of its own below 75.
        self.told(TREE, Wide("e", 15), (0, None))
        self.told(TREE, Wide("e", 16), (16, None))
        self.told(TREE, Wide("e", 30), (30, None))
        self.told(TREE, Wide("e", 31), (31, 70), (71, None))
        self.told(TREE, Wide("e", 40), (40, 70), (80, None))
        self.told(TREE, Wide("e", 41))

    def test_in_lines(self):
        self.told(TREE, InLines("b", 0))
        self.told(TREE, InLines("b", 1), (70, None))
        self.told(TREE, InLines("b", 2), (35, None))
        self.told(TREE, InLines("b", 3), (0, None))
        self.told(TREE, InLines("a", 1))
        self.told(TREE, InLines("a", 2), (0, None))
        self.told(TREE, InLines("c", 0), (0, None))

    def test_in_lines_where_no_box_stands_elsewhere(self):
        tree = HAND[-1]
        self.told(tree, InLines("a", 1), (10, None))
        self.told(tree, InLines("a", 2), (0, None))
        self.told(tree, Not(InLines("a", 1)), (0, 10))

    def test_in_lines_of_a_row_that_does_not_break(self):
        tree = row("a", fixed("b", 10), fixed("c", 20), row("d"))
        self.told(tree, InLines("a", 0))
        self.told(tree, InLines("a", 1), (0, None))
        self.told(tree, InLines("d", 0), (0, None))

    def test_within(self):
        self.told(TREE, Within("a"), (0, None))
        self.told(TREE, Within("b"), (0, None))
        self.told(TREE, Within("c"), (10, None))
        self.told(TREE, Within("d"), (20, None))
        self.told(TREE, Within("e"), (15, None))
        self.told(TREE, Within("f"), (8, None))

    def test_within_a_box_that_stays_as_wide_or_never(self):
        inner = row("b", plain("c", (5, 5, None, 0, 0)), plain("d", (15, 15, None, 0, 0)), breaks=True, sizes=(10, 0, 10, 0, 1))
        tree = row("a", inner, gap=0)
        self.told(tree, Within("d"))
        self.told(tree, Within("c"), (5, None))

    def test_same(self):
        self.told(TREE, Same("c", "c"), (0, None))
        self.told(TREE, Same("c", "d"), (35, None))
        self.told(TREE, Same("d", "e"), (70, None))
        self.told(TREE, Same("e", "d"), (70, None))
        self.told(TREE, Same("a", "c"), (0, None))
        self.told(TREE, Same("c", "f"))

    def test_same_is_of_the_upper_sides_alone(self):
        tree = row("a", column("b", fixed("c", 10, 3), fixed("d", 10, 2)), column("e", fixed("f", 5, 3), fixed("g", 5, 7)))
        self.told(tree, Same("d", "g"), (0, None))
        self.told(tree, Same("c", "g"))

    def test_both_either_not(self):
        wide = Wide("e", 31)
        lines = InLines("b", 2)
        self.told(TREE, Both(wide, lines), (35, 70), (71, None))
        self.told(TREE, Either(wide, lines), (31, None))
        self.told(TREE, Not(wide), (0, 31), (70, 71))
        self.told(TREE, Not(lines), (0, 35))
        self.told(TREE, Both(wide, Not(lines)), (31, 35))
        self.told(TREE, Both(Not(lines), wide), (31, 35))
        self.told(TREE, Either(Not(wide), lines), (0, 31), (35, None))
        self.told(TREE, Not(Not(wide)), (31, 70), (71, None))
        self.told(TREE, Both(wide, Not(wide)))
        self.told(TREE, Either(wide, Not(wide)), (0, None))
        self.told(TREE, Both(Either(Same("c", "d"), wide), Not(Within("c"))))
        self.told(TREE, Either(Both(wide, lines), Both(Not(wide), Not(lines))), (0, 31), (35, 70), (71, None))

    def test_a_wish_is_made_of_wishes_many_times_over(self):
        wish = Wide("f", 9)
        other = Wide("f", 9)
        for _ in range(20000):
            wish = Not(wish)
        for _ in range(1500):
            other = Both(Either(Within("a"), other), other) if other.told()[0] == "wide" else Either(other, Wide("c", 11))
        self.assertIs(wish.holds(box_of(TREE), (9, 1)), True)
        self.assertIs(wish.holds(box_of(TREE), (8, 1)), False)
        self.assertEqual(wish.widths(box_of(TREE)), [((9, 1), None)])
        self.assertEqual(other.widths(box_of(TREE)), [((9, 1), None)])


def cases():
    chance = random.Random(81)
    trees = HAND + trees_by_chance(82, 70, boxes=14, kids=5) + nested_by_chance(83, 12, 3, 4)
    found = []
    for tree in trees:
        names = [one[1] for one in trees_told(tree)]
        found.append((tree, [wish_by_chance(chance, names) for _ in range(5)]))
    return found


CASES = cases()


class WidthsTest(Case):

    def test_just_the_widths_at_which_it_holds(self):
        chance = random.Random(84)
        for tree, wishes in CASES:
            box = box_of(tree)
            for wish in wishes:
                spans = wish.widths(box)
                self.assertIs(is_spans(spans), True)
                ends = {fraction(end) for span in spans for end in span if end is not None}
                ends.update([Fraction(end) for end in chance.sample(bends(tree), min(4, len(bends(tree))))])
                inner = {(one + other) / 2 for one, other in zip(sorted(ends), sorted(ends)[1:])}
                near = {end + TINY for end in ends} | {abs(end - TINY) for end in ends}
                for width in {Fraction(0), Fraction(GREAT), max(ends) + 1} | ends | inner | near:
                    answer = holds_told(wish.told(), tree, width)
                    self.assertIs(has(spans, part(width)), answer, (tree, wish.told(), width))
            self.assertEqual(box.tree(), tree)

    def test_holds(self):
        chance = random.Random(85)
        for tree, wishes in CASES:
            box = box_of(tree)
            for wish in wishes:
                told = copy.deepcopy(wish.told())
                for width in chance.sample(bends(tree), min(5, len(bends(tree)))):
                    for near in (width, width + TINY, abs(width - TINY), width + Fraction(1, 3)):
                        self.assertIs(wish.holds(box, part(near)), holds_told(told, tree, near))
                self.assertEqual(wish.told(), told)
            self.assertEqual(box.tree(), tree)

    def test_how_many_calls_are_made(self):
        box = read_box(BREAKING_ROWS).kids()[0]
        for wish in [Wide("a3", 270), InLines("r9", 3), Within("a3"), Same("a3", "a4")]:
            self.assertLess(calls(wish.widths, box), 100000)
            self.assertLess(calls(self.refused, TooMany, wish.widths, read_box(BREAKING_ROWS)), 200000)

    def test_the_list_told_is_the_askers_own(self):
        box = box_of(TREE)
        for wish in (Wide("e", 31), Not(Wide("e", 31)), Both(Wide("e", 31), Wide("a", 0)), Either(Wide("e", 31), Wide("c", 11))):
            expected = wish.widths(box)
            wish.widths(box).clear()
            self.assertEqual(wish.widths(box), expected)
            self.assertTrue(expected)


class RefusedTest(Case):

    def absent(self):
        """Wishes of names that are not there, some of them settled by another wish already."""
        good = Wide("a", 0)
        return [
            Wide("x", 0), InLines("x", 9), Within("x"), Same("x", "a"), Same("a", "x"), Same("x", "x"), Not(Wide("x", 0)),
            Both(good, Wide("x", 0)), Both(Wide("x", 0), good), Both(Not(good), Wide("x", 0)), Either(good, Within("x")),
            Either(Within("x"), good), Not(Not(Either(good, Either(good, Same("a", "x"))))),
        ]

    def test_names_that_are_not_there(self):
        box = box_of(TREE)
        for wish in self.absent():
            self.refused(NoName, wish.holds, box, (50, 1))
            self.refused(NoName, wish.widths, box)
        self.refused(NoName, Within("a").holds, box_of(fixed("b", 5)), (50, 1))

    def test_widths_that_are_none(self):
        box = box_of(TREE)
        for wish in self.absent() + [Wide("a", 0), Not(Within("c")), Both(Wide("a", 0), Within("c"))]:
            for width in NO_WIDTHS:
                self.refused(NoPart, wish.holds, box, width)
        for width in odd_things():
            self.refused(NoPart, Wide("a", 0).holds, box, width)
            self.refused(NoPart, Within("x").holds, box, width)

    def test_too_many(self):
        tree = read_box(FOUR_HUNDRED).tree()
        box = box_of(column("page", tree, plain("bent", (0, 0, 1000, 0, 0))))
        self.refused(TooMany, Wide("page", 0).widths, box)
        self.refused(TooMany, Not(Both(Within("b0"), Same("b0", "b1"))).widths, box)
        for wish in [Wide("x", 0), Both(Wide("page", 0), Within("x")), Either(Within("x"), Wide("page", 0))]:
            self.refused(NoName, wish.widths, box)
        self.assertIs(Wide("page", 5).holds(box, (5, 1)), True)

    def test_400_are_not_too_many(self):
        self.assertEqual(Wide("top", 5).widths(read_box(FOUR_HUNDRED)), [((5, 1), None)])


if __name__ == "__main__":
    unittest.main()
