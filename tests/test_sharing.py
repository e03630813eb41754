import itertools
import random
import unittest
from fractions import Fraction

from helpers import Case, fraction, knotted, odd_things, part
from widthwise.boxes import box_of
from widthwise.errors import NoBox, NoItem
from widthwise.sharing import is_item, is_shared, shared, width_at
from words import share_told, sum_told, width_told

GREAT = 10 ** 39
MANY = 10 ** 5000

ITEMS = [
    (0, 0, None, 0, 0), (0, 0, 0, 1, 1), (10, 0, None, 1, 1), (10, 5, 20, 1, 2), (10, 10, 10, 3, 3),
    (10, 4, 10, 3, 3), (10, 10, 16, 3, 3), (7, 0, 9, 0, 0), (7, 0, 9, 0, 1), (7, 0, 9, 1, 0), (3, 1, None, 20, 20),
    (1000, 1000, 1000, 20, 20), (1000, 0, None, 20, 0), (0, 0, 1000, 0, 20), (5, 2, 6, 7, 3),
]

NO_ITEMS = [
    None, True, 0, 10, "", "item", b"12345", (), (10,), (10, 5), (10, 5, 20, 1), (10, 5, 20, 1, 2, 3), [10, 5, 20, 1, 2],
    [], {}, {10: 5}, range(5), ((10, 5, 20, 1, 2),), [(10, 5, 20, 1, 2)], (4, 5, 20, 1, 2), (0, 1, None, 0, 0),
    (10, 5, 9, 1, 2), (10, 5, 0, 1, 2), (10, 10, 9, 0, 0), (-1, -1, None, 0, 0), (-1, 0, None, 0, 0), (0, -1, None, 0, 0),
    (0, 0, -1, 0, 0), (10, 5, 20, -1, 2), (10, 5, 20, 1, -1), (10, 5, 20, None, 2), (10, 5, 20, 1, None),
    (None, 0, None, 1, 1), (10, None, None, 1, 1), (True, 0, None, 1, 1), (10, False, None, 1, 1), (0, 0, True, 1, 1),
    (0, 0, False, 1, 1), (10, 5, 20, True, 1), (10, 5, 20, 1, False), ("10", 5, 20, 1, 2), (10, "5", 20, 1, 2),
    (10, 5, "20", 1, 2), (10, 5, "-", 1, 2), (10, 5, 20, "1", 2), (10, 5, 20, 1, "2"), ((10, 1), 5, 20, 1, 2),
    (10, (5, 1), 20, 1, 2), (10, 5, (20, 1), 1, 2), (10, 5, 20, (1, 1), 2), (10, 5, 20, 1, [2]), (10, 5, {}, 1, 2),
    (1001, 0, None, 1, 2), (10, 5, 1001, 1, 2), (10, 5, 20, 21, 2), (10, 5, 20, 1, 21), (MANY, 0, None, 1, 1),
    (10, 5, MANY, 1, 1), (10, 5, 20, MANY, 1), (10, -MANY, 20, 1, 1), ("box", "a", (10, 5, 20, 1, 2), 7), "10512",
]


def line_by_chance(chance):
    items = []
    for _ in range(chance.randrange(0, 13)):
        three = sorted([chance.choice([0, 1, 2, 5, 10, 50, 100, chance.randrange(1001), 1000]) for _ in range(3)])
        most = chance.choice([three[2], three[2], None])
        items.append((three[1], three[0], most, chance.choice([0, 1, 2, 3, 20]), chance.choice([0, 1, 3, 7, 20])))
    return items


def lines():
    chance = random.Random(33)
    found = [[]] + [[item] for item in ITEMS] + [list(two) for two in itertools.product(ITEMS, repeat=2)]
    return found + [line_by_chance(chance) for _ in range(400)] + [ITEMS[:12], ITEMS[3:], [ITEMS[3]] * 12]


LINES = lines()


def rooms(items):
    """Rooms at all bends of a line's widths, between them, and beyond."""
    wishes = sum([item[0] for item in items])
    sums = {Fraction(0), Fraction(wishes), Fraction(wishes + 1), Fraction(wishes - 1), Fraction(wishes) / 3}
    for wish, least, most, grow, shrink in items[:4]:
        if grow and most is not None:
            sums.add(sum_told(items, Fraction(most - wish, grow)))
        if shrink:
            sums.add(sum_told(items, Fraction(least - wish, shrink)))
    sums.update([max(sums) + Fraction(1, 7), max(sums) * 2 + 1000, min(sums) - Fraction(2, 3), Fraction(-5000)])
    return sorted(sums)


class IsItemTest(Case):

    def test_items(self):
        for item in ITEMS + [(0, 0, None, 0, 20), (1000, 0, 1000, 0, 0), (1, 1, 1, 0, 0), (1, 0, 1, 0, 0)]:
            self.assertIs(self.untouched(is_item, item), True, item)

    def test_others(self):
        for thing in NO_ITEMS:
            self.assertIs(self.untouched(is_item, thing), False)

    def test_odd_things_alone_and_within(self):
        for thing in odd_things() + [knotted(), (knotted(),)]:
            self.assertIs(is_item(thing), False)
            if thing is not None and thing.__class__ is not int:
                for at in range(5):
                    self.assertIs(is_item((0,) * at + (thing,) + (0,) * (4 - at)), False)

    def test_items_are_as_sizes_are(self):
        numbers = [-1, 0, 1, 2, 20, 21, 1000, 1001]
        for wish, least, most in itertools.product(numbers, numbers, numbers + [None]):
            self.alike((wish, least, most, 1, 1))
        for grow, shrink in itertools.product(numbers, repeat=2):
            self.alike((5, 0, None, grow, shrink))

    def alike(self, sizes):
        try:
            box_of(("box", "a", sizes, 0))
        except NoBox:
            self.assertIs(is_item(sizes), False, sizes)
        else:
            self.assertIs(is_item(sizes), True, sizes)


class WidthAtTest(Case):

    def test_from_0_on_the_wish_and_what_it_grows_but_no_more_than_most(self):
        told = [((0, 1), (10, 1)), ((1, 3), (31, 3)), ((1, 2), (21, 2)), ((10, 1), (20, 1)), ((31, 3), (20, 1)),
                ((GREAT, 1), (20, 1))]
        for share, width in told:
            self.assertEqual(width_at((10, 5, 20, 1, 2), share), width)

    def test_below_0_the_wish_and_what_it_shrinks_but_no_less_than_least(self):
        told = [((-1, 3), (28, 3)), ((-1, 2), (9, 1)), ((-5, 2), (5, 1)), ((-8, 3), (5, 1)), ((-GREAT, 1), (5, 1))]
        for share, width in told:
            self.assertEqual(width_at((10, 5, 20, 1, 2), share), width)

    def test_no_most(self):
        self.assertEqual(width_at((10, 5, None, 20, 2), (GREAT, 1)), (GREAT * 20 + 10, 1))
        self.assertEqual(width_at((10, 5, None, 0, 2), (GREAT, 1)), (10, 1))

    def test_no_weight(self):
        for share in [(0, 1), (1, 2), (-1, 2), (1000, 1), (-1000, 1)]:
            self.assertEqual(width_at((10, 0, 20, 0, 0), share), (10, 1))

    def test_each_item_with_many_shares(self):
        for item in ITEMS:
            for share in [Fraction(at, 12) for at in range(-150, 151)] + [Fraction(GREAT, 7), Fraction(-GREAT, 7)]:
                found = self.untouched(width_at, item, part(share))
                self.plain_part(found)
                self.assertEqual(fraction(found), width_told(item, share))

    def test_refused(self):
        for thing in NO_ITEMS + odd_things() + [knotted()]:
            for share in [(0, 1), (1, 2), (-1, 2)]:
                self.refused(NoItem, width_at, thing, share)
        for thing in NO_ITEMS:
            self.untouched(self.refused, NoItem, width_at, thing, (1, 1))


class SharedTest(Case):

    def told(self, items, room, share, widths, spare=0, over=0):
        expected = (part(share), [part(width) for width in widths], part(spare), part(over))
        self.assertEqual(self.untouched(shared, items, part(room)), expected)

    def test_nothing_over_and_nothing_lacking(self):
        self.told([(10, 5, 20, 1, 2), (7, 0, None, 3, 3)], 17, 0, [10, 7])
        self.told([(10, 10, 10, 20, 20)], 10, 0, [10])
        self.told([(0, 0, None, 20, 20)], 0, 0, [0])

    def test_no_items(self):
        self.told([], 0, 0, [])
        self.told([], Fraction(5, 2), 0, [], spare=Fraction(5, 2))
        self.told([], Fraction(-5, 2), 0, [], over=Fraction(5, 2))

    def test_room_is_taken_by_weights(self):
        self.told([(10, 0, None, 1, 0), (10, 0, None, 2, 0)], 26, 2, [12, 14])
        self.told([(10, 0, None, 1, 0), (10, 0, None, 2, 0)], 21, Fraction(1, 3), [Fraction(31, 3), Fraction(32, 3)])
        self.told([(10, 0, None, 1, 0), (10, 0, None, 0, 0)], 25, 5, [15, 10])

    def test_what_one_at_its_most_leaves_is_taken_by_others(self):
        self.told([(10, 0, 11, 1, 0), (10, 0, None, 1, 0)], 26, 5, [11, 15])
        self.told([(0, 0, 1, 1, 0), (0, 0, 10, 2, 0), (0, 0, None, 1, 0)], 20, 9, [1, 10, 9])

    def test_room_is_given_by_weights(self):
        self.told([(10, 0, None, 0, 1), (10, 0, None, 0, 2)], 14, -2, [8, 6])
        self.told([(10, 0, None, 0, 1), (10, 0, None, 0, 0)], 12, -8, [2, 10])
        self.told([(10, 0, None, 0, 1)], 0, -10, [0])

    def test_what_one_at_its_least_does_not_give_is_given_by_others(self):
        self.told([(10, 9, None, 0, 1), (10, 0, None, 0, 1)], 14, -5, [9, 5])
        self.told([(10, 9, None, 0, 1), (20, 14, None, 0, 2), (10, 0, None, 0, 1)], 25, -8, [9, 14, 2])

    def test_spare(self):
        self.told([(10, 0, 12, 1, 0), (10, 0, 20, 2, 0)], 40, 5, [12, 20], spare=8)
        self.told([(10, 0, 12, 1, 0), (10, 0, 20, 20, 0)], 40, 2, [12, 20], spare=8)
        self.told([(10, 0, None, 0, 5)], Fraction(41, 4), 0, [10], spare=Fraction(1, 4))
        self.told([(10, 0, 10, 5, 5)], 11, 0, [10], spare=1)
        self.told([(10, 0, 12, 0, 0), (10, 0, 11, 3, 0)], 40, Fraction(1, 3), [10, 11], spare=19)

    def test_over(self):
        self.told([(10, 8, None, 0, 1), (10, 5, None, 0, 2)], 10, Fraction(-5, 2), [8, 5], over=3)
        self.told([(10, 0, None, 5, 0)], Fraction(39, 4), 0, [10], over=Fraction(1, 4))
        self.told([(10, 10, None, 5, 5)], 9, 0, [10], over=1)
        self.told([(10, 4, None, 5, 5)], -3, Fraction(-6, 5), [4], over=7)
        self.told([(0, 0, None, 5, 5)], Fraction(-1, 2), 0, [0], over=Fraction(1, 2))

    def test_just_at_all_mosts_and_just_at_all_leasts(self):
        items = [(10, 4, 12, 1, 1), (10, 4, 20, 2, 3), (10, 10, 10, 5, 5), (3, 0, 7, 0, 0)]
        self.told(items, 45, 5, [12, 20, 10, 3])
        self.told(items, Fraction(91, 2), 5, [12, 20, 10, 3], spare=Fraction(1, 2))
        self.told(items, 21, -6, [4, 4, 10, 3])
        self.told(items, Fraction(41, 2), -6, [4, 4, 10, 3], over=Fraction(1, 2))

    def test_many_lines(self):
        for items in LINES:
            for room in rooms(items):
                share = share_told(items, room)
                widths = [width_told(item, share) for item in items]
                left = room - sum(widths)
                self.told(items, room, share, widths, max(left, 0), max(-left, 0))

    def test_what_is_told_is_what_the_words_ask(self):
        for items in LINES[::7]:
            for room in rooms(items):
                told, widths, spare, over = shared(items, part(room))
                for thing in [told, spare, over] + widths:
                    self.plain_part(thing)
                share = fraction(told)
                self.assertEqual([fraction(width) for width in widths], [width_told(item, share) for item in items])
                self.assertEqual(sum_told(items, share) + fraction(spare) - fraction(over), room)
                self.assertTrue(spare[0] >= 0 and over[0] >= 0 and (spare == (0, 1) or over == (0, 1)))
                for (_, least, most, _, _), width in zip(items, widths):
                    self.assertTrue(least <= fraction(width) and (most is None or fraction(width) <= most))
                wishes = sum([item[0] for item in items])
                # With a share nearer to 0 there is still room, or still too little of it.
                for nearer in (share * Fraction(GREAT - 1, GREAT), share / 2):
                    if share > 0:
                        self.assertTrue(wishes < room and sum_told(items, nearer) < sum_told(items, share) <= room)
                    if share < 0:
                        self.assertTrue(wishes > room and sum_told(items, nearer) > sum_told(items, share) >= room)

    def test_great_rooms(self):
        self.told([(10, 5, 20, 1, 2), (7, 0, None, 3, 3)], GREAT, Fraction(GREAT - 27, 3), [20, GREAT - 20])
        self.told([(10, 5, 20, 1, 2)], -GREAT, Fraction(-5, 2), [5], over=GREAT + 5)
        self.told([(1, 0, None, 7, 7)], Fraction(1, GREAT), Fraction(1 - GREAT, 7 * GREAT), [Fraction(1, GREAT)])

    def test_refused(self):
        good = (10, 5, 20, 1, 2)
        for thing in NO_ITEMS + odd_things() + [knotted()]:
            for room in [(0, 1), (10, 1), (100, 1), (-1, 2)]:
                self.refused(NoItem, shared, [thing], room)
            self.refused(NoItem, shared, [good, thing], (15, 1))
            self.refused(NoItem, shared, [thing, good, good], (15, 1))
        for thing in NO_ITEMS:
            self.untouched(self.refused, NoItem, shared, [good, thing], (15, 1))

    def test_what_is_no_list_is_refused(self):
        good = (10, 5, 20, 1, 2)
        for thing in odd_things() + [good, (good,), (good, good), {good}, {good: 1}, "12345"]:
            self.refused(NoItem, shared, thing, (15, 1))
            self.refused(NoItem, is_shared, thing, (15, 1), [(15, 1)])

    def test_the_list_told_is_the_askers_own(self):
        items = [(10, 5, 20, 1, 2), (7, 0, None, 3, 3)]
        first = shared(items, (20, 1))
        self.assertIs(first.__class__, tuple)
        self.assertIs(first[1].__class__, list)
        first[1].clear()
        self.assertEqual(shared(items, (20, 1))[1], [(43, 4), (37, 4)])
        told = shared(items, (20, 1))
        items.clear()
        self.assertEqual(told[1], [(43, 4), (37, 4)])


class IsSharedTest(Case):

    def test_the_widths_and_no_others(self):
        for items in LINES[::5]:
            for room in rooms(items):
                widths = shared(items, part(room))[1]
                self.assertIs(self.untouched(is_shared, items, part(room), list(widths)), True)
                self.assertIs(is_shared(items, part(room), widths + [(0, 1)]), False)
                for at, width in enumerate(widths):
                    self.assertIs(is_shared(items, part(room), widths[:at] + widths[at + 1:]), False)
                    for more in (Fraction(1), Fraction(-1), Fraction(1, GREAT)):
                        other = part(fraction(width) + more)
                        self.assertIs(is_shared(items, part(room), widths[:at] + [other] + widths[at + 1:]), False)

    def test_lists_of_other_lengths(self):
        self.assertIs(is_shared([], (3, 1), []), True)
        self.assertIs(is_shared([], (0, 1), [(0, 1)]), False)
        self.assertIs(is_shared([(10, 5, 20, 1, 2)], (10, 1), []), False)
        self.assertIs(is_shared([(10, 5, 20, 1, 2)], (10, 1), [(10, 1)] * 2), False)

    def test_widths_in_another_order(self):
        items = [(10, 0, None, 1, 0), (10, 0, None, 2, 0)]
        self.assertIs(is_shared(items, (26, 1), [(12, 1), (14, 1)]), True)
        self.assertIs(is_shared(items, (26, 1), [(14, 1), (12, 1)]), False)

    def test_widths_that_have_the_sum_but_are_not_shared_by_one_number(self):
        items = [(10, 0, None, 1, 1), (10, 0, None, 1, 1)]
        self.assertIs(is_shared(items, (30, 1), [(15, 1), (15, 1)]), True)
        self.assertIs(is_shared(items, (30, 1), [(14, 1), (16, 1)]), False)
        self.assertIs(is_shared(items, (30, 1), [(-5, 1), (35, 1)]), False)

    def test_refused(self):
        good = (10, 5, 20, 1, 2)
        for thing in NO_ITEMS + odd_things() + [knotted()]:
            for widths in ([], [(10, 1)], [(10, 1), (0, 1)]):
                self.refused(NoItem, is_shared, [thing], (10, 1), widths)
                self.refused(NoItem, is_shared, [good, thing], (10, 1), widths)


if __name__ == "__main__":
    unittest.main()
