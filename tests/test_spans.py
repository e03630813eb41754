import itertools
import unittest
from fractions import Fraction

from helpers import Case, fraction, knotted, odd_things, part
from widthwise.errors import NoSpan
from widthwise.spans import common, has, is_spans, outside, spans_of, united

ALL = [((0, 1), None)]
GREAT = 10 ** 39

# Ends that rise otherwise as parts than as Python's tuples.
ENDS = [(0, 1), (1, 3), (1, 2), (2, 3), (5, 1)]
# A width at each end, between each two, below the first and above the last.
WIDTHS = [part(Fraction(at, 12)) for at in range(-3, 80)]


def in_span(span, width):
    low, high = span
    return fraction(low) <= width and (high is None or width < fraction(high))


def in_some(spans, width):
    return any([in_span(span, fraction(width)) for span in spans])


def all_sets():
    """Each set of widths with ends among ENDS."""
    found = []
    for many in range(len(ENDS) + 1):
        for ends in itertools.combinations(ENDS, many):
            lows = ends[::2]
            highs = list(ends[1::2]) + [None]
            found.append(list(zip(lows, highs)))
    return found


def all_pairs():
    """Each pair that spans_of lets by with ends among ENDS and one below 0."""
    return [(low, high) for low in ENDS for high in ENDS + [(-1, 2), None]]


SETS = all_sets()

# Things that are no list of pairs of a part from 0 on and a part or None.
NO_PAIRS = [
    (), ((0, 1), None), (((0, 1), None),), {(0, 1): None}, {((0, 1), None)}, {}, "", "ab", 0, 1, None,
    [(0, 1)], [None], [0], [True], ["ab"], [[]], [()], [[(0, 1), None]], [[(0, 1), (1, 1)]],
    [((0, 1),)], [((0, 1), (1, 1), (2, 1))], [((0, 1), (1, 1), None)], [((0, 1), None, None)],
    [([0, 1], None)], [((0, 1), [1, 1])], [([0, 1], [1, 1])], [(0, None)], [(0, 1)], [((0, 1), 1)],
    [((0,), None)], [((0, 1, 1), None)], [((0, 1), (1,))], [((0, 1), (1, 1, 1))], [((), None)],
    [((0, 2), None)], [((2, 4), None)], [((0, 1), (2, 2))], [((0, 1), (6, 4))], [((1, 3), (2, 6))],
    [((0, 0), None)], [((1, 0), None)], [((0, 1), (1, 0))], [((0, 1), (0, 0))],
    [((0, -1), None)], [((1, -1), None)], [((-1, -1), None)], [((0, 1), (1, -1))], [((0, 1), (-1, -1))],
    [((-1, 1), None)], [((-1, 2), (1, 1))], [((-2, 1), (-1, 1))], [((-GREAT, 1), None)],
    [((True, 1), None)], [((False, 1), None)], [((0, True), None)], [((1, True), None)],
    [((0, 1), (True, 1))], [((0, 1), (1, True))], [((0, 1), True)], [((0, 1), False)],
    [((0, 1), "")], [((0, 1), "1")], [("0", None)], [(None, None)], [(None, (1, 1))], [((0, 1), ())],
    [((0, 1), (1, 1)), None], [((0, 1), (1, 1)), ((2, 1),)], [((0, 1), None), [(0, 1), None]],
    [((0, 1), (1, 1)), ((-1, 1), (2, 1))], [[], ((0, 1), None)], [ALL], [ALL[0], ALL],
]

# Lists of such pairs that are no sets.
NO_SETS = [
    [((0, 1), (0, 1))], [((1, 1), (0, 1))], [((1, 2), (1, 3))], [((1, 1), (-1, 1))], [((0, 1), (-1, 1))],
    [((2, 1), (2, 1))], [((0, 1), (1, 1)), ((1, 1), (2, 1))], [((0, 1), (1, 1)), ((1, 1), None)],
    [((0, 1), (2, 1)), ((1, 1), (3, 1))], [((0, 1), (3, 1)), ((1, 1), (2, 1))],
    [((0, 1), (1, 1)), ((0, 1), (1, 1))], [((2, 1), (3, 1)), ((0, 1), (1, 1))],
    [((0, 1), None), ((1, 1), None)], [((0, 1), None), ((1, 1), (2, 1))], [((0, 1), None), ((0, 1), None)],
    [((2, 1), None), ((0, 1), (1, 1))], [((0, 1), (1, 1)), ((2, 1), (2, 1))],
    [((0, 1), (1, 1)), ((3, 1), (2, 1))], [((1, 3), (1, 2)), ((1, 3), None)], [((1, 4), (2, 3)), ((1, 2), None)],
    [((0, 1), (1, 1)), ((2, 1), (4, 1)), ((3, 1), None)], [((0, 1), (1, 1)), ((2, 1), None), ((3, 1), (4, 1))],
    [((0, 1), (1, 1)), ((3, 1), (4, 1)), ((2, 1), None)],
]


class IsSpansTest(Case):

    def test_sets(self):
        self.assertIs(is_spans([]), True)
        self.assertIs(is_spans(ALL), True)
        self.assertIs(is_spans([((0, 1), (1, 2)), ((2, 3), (5, 1)), ((6, 1), None)]), True)
        self.assertIs(is_spans([((1, 3), (1, 2)), ((2, 3), (GREAT, 1))]), True)
        self.assertIs(is_spans([((GREAT, 1), (GREAT + 1, 1)), ((GREAT + 2, 1), None)]), True)
        for one in SETS:
            self.assertIs(self.untouched(is_spans, one), True)

    def test_lists_of_other_things(self):
        for thing in NO_PAIRS:
            self.assertIs(self.untouched(is_spans, thing), False, thing)

    def test_lists_that_are_out_of_order(self):
        for thing in NO_SETS:
            self.assertIs(self.untouched(is_spans, thing), False, thing)

    def test_odd_things_alone_and_within(self):
        for thing in odd_things() + [knotted()]:
            self.assertIs(is_spans(thing), False)
            self.assertIs(is_spans([thing]), False)
            self.assertIs(is_spans([ALL[0], thing]), False)
            self.assertIs(is_spans([(thing, None)]), False)
            self.assertIs(is_spans([(thing, thing)]), False)
            if thing.__class__ is not int:
                self.assertIs(is_spans([((thing, 1), None)]), False)
                self.assertIs(is_spans([((0, 1), (thing, 1))]), False)
            if thing is not None:
                self.assertIs(is_spans([((0, 1), thing)]), False)

    def test_each_list_of_two_pairs(self):
        for one, other in itertools.product(all_pairs(), repeat=2):
            rising = all([high is None or fraction(low) < fraction(high) for low, high in (one, other)])
            apart = one[1] is not None and fraction(one[1]) < fraction(other[0])
            self.assertIs(is_spans([one, other]), rising and apart, (one, other))


class SpansOfTest(Case):

    def test_pairs_in_any_order(self):
        pairs = [((0, 1), (1, 3)), ((1, 2), (2, 3)), ((5, 1), (6, 1)), ((7, 1), None)]
        for order in itertools.permutations(pairs):
            self.assertEqual(self.untouched(spans_of, list(order)), pairs)

    def test_overlapping_touching_alike(self):
        self.assertEqual(spans_of([((0, 1), (2, 1)), ((1, 1), (3, 1))]), [((0, 1), (3, 1))])
        self.assertEqual(spans_of([((1, 1), (3, 1)), ((0, 1), (1, 1))]), [((0, 1), (3, 1))])
        self.assertEqual(spans_of([((0, 1), (1, 1))] * 3), [((0, 1), (1, 1))])
        self.assertEqual(spans_of([((0, 1), (9, 1)), ((1, 1), (2, 1))]), [((0, 1), (9, 1))])
        self.assertEqual(spans_of([((1, 1), None), ((0, 1), (1, 1))]), ALL)
        self.assertEqual(spans_of([((1, 1), None), ((2, 1), (3, 1))]), [((1, 1), None)])
        self.assertEqual(spans_of([((1, 1), None), ((2, 1), None)]), [((1, 1), None)])

    def test_those_whose_high_is_not_above_low_have_none(self):
        for pair in [((0, 1), (0, 1)), ((1, 1), (0, 1)), ((1, 1), (-1, 1)), ((1, 2), (1, 3)), ((0, 1), (-9, 2))]:
            self.assertEqual(spans_of([pair]), [])
        self.assertEqual(spans_of([((5, 1), (0, 1)), ((1, 1), (2, 1))]), [((1, 1), (2, 1))])
        # An empty pair between two others does not join them.
        self.assertEqual(
            spans_of([((0, 1), (1, 1)), ((1, 1), (1, 1)), ((2, 1), (3, 1)), ((0, 1), (0, 1))]),
            [((0, 1), (1, 1)), ((2, 1), (3, 1))],
        )

    def test_none_and_great_ones(self):
        self.assertEqual(spans_of([]), [])
        self.assertEqual(
            spans_of([((GREAT, 3), (GREAT, 1)), ((1, GREAT), (1, 2)), ((GREAT + 1, 3), None)]),
            [((1, GREAT), (1, 2)), ((GREAT, 3), None)],
        )

    def test_a_set_is_the_set_of_its_spans(self):
        for one in SETS:
            self.assertEqual(self.untouched(spans_of, one), one)
            self.assertEqual(spans_of(one[::-1]), one)

    def test_each_list_of_two_or_three_pairs(self):
        pairs = all_pairs()
        lists = [list(told) for told in itertools.product(pairs, repeat=2)]
        lists += [list(told) for told in itertools.combinations(pairs[::2], 3)]
        for told in lists:
            found = self.untouched(spans_of, told)
            self.assertIs(is_spans(found), True, told)
            for width in WIDTHS:
                self.assertEqual(in_some(found, width), in_some(told, width), (told, width))

    def test_many_pairs(self):
        apart = [(part(2 * at), part(2 * at + 1)) for at in range(60)]
        self.assertEqual(spans_of(apart[::-1]), apart)
        self.assertEqual(spans_of(apart[1::2] + apart[::2]), apart)
        self.assertEqual(spans_of(apart + [(part(2 * at + 1), part(2 * at + 2)) for at in range(60)]),
                         [((0, 1), (120, 1))])

    def test_refused(self):
        for thing in NO_PAIRS:
            with self.subTest(thing=thing):
                self.untouched(self.refused, NoSpan, spans_of, thing)
        for thing in odd_things() + [knotted()]:
            self.refused(NoSpan, spans_of, thing)
            self.refused(NoSpan, spans_of, [thing])
            self.refused(NoSpan, spans_of, [ALL[0], thing])
            self.refused(NoSpan, spans_of, [(thing, None)])
            if thing.__class__ is not int:
                self.refused(NoSpan, spans_of, [((thing, 1), None)])
                self.refused(NoSpan, spans_of, [((0, 1), (thing, 1))])
            if thing is not None:
                self.refused(NoSpan, spans_of, [((0, 1), thing)])

    def test_a_pair_that_has_none_is_looked_at_too(self):
        self.refused(NoSpan, spans_of, [((-1, 1), (-2, 1))])
        self.refused(NoSpan, spans_of, [((2, 1), (2, 4))])


class SetsTest(Case):

    def check(self, found, told):
        self.assertIs(is_spans(found), True)
        for width in WIDTHS:
            if width[0] >= 0:
                self.assertIs(in_some(found, width), told(width))

    def test_united(self):
        self.assertEqual(united([], []), [])
        self.assertEqual(united([((0, 1), (1, 1))], [((2, 1), None)]), [((0, 1), (1, 1)), ((2, 1), None)])
        self.assertEqual(united([((1, 1), None)], [((0, 1), (1, 1))]), ALL)
        for one, other in itertools.product(SETS, repeat=2):
            found = self.untouched(united, one, other)
            self.check(found, lambda width: in_some(one, width) or in_some(other, width))

    def test_common(self):
        self.assertEqual(common([], ALL), [])
        self.assertEqual(common(ALL, ALL), ALL)
        self.assertEqual(common([((0, 1), (1, 1))], [((1, 1), None)]), [])
        self.assertEqual(common([((0, 1), (2, 1))], [((1, 1), None)]), [((1, 1), (2, 1))])
        for one, other in itertools.product(SETS, repeat=2):
            found = self.untouched(common, one, other)
            self.check(found, lambda width: in_some(one, width) and in_some(other, width))

    def test_outside(self):
        self.assertEqual(outside([]), ALL)
        self.assertEqual(outside(ALL), [])
        self.assertEqual(outside([((0, 1), (1, 2))]), [((1, 2), None)])
        self.assertEqual(outside([((1, 2), None)]), [((0, 1), (1, 2))])
        self.assertEqual(outside([((1, 3), (1, 2)), ((2, 3), (5, 1))]),
                         [((0, 1), (1, 3)), ((1, 2), (2, 3)), ((5, 1), None)])
        for one in SETS:
            found = self.untouched(outside, one)
            self.check(found, lambda width: not in_some(one, width))
            self.assertEqual(outside(found), one)

    def test_great_ones(self):
        near = [((GREAT, 1), (GREAT + 1, 1))]
        self.assertEqual(united(near, [((GREAT + 1, 1), (GREAT * 9, 1))]), [((GREAT, 1), (GREAT * 9, 1))])
        self.assertEqual(common(near, [((GREAT * 2 + 1, 2), None)]), [((GREAT * 2 + 1, 2), (GREAT + 1, 1))])
        self.assertEqual(outside(near), [((0, 1), (GREAT, 1)), ((GREAT + 1, 1), None)])

    def test_refused(self):
        for thing in NO_PAIRS + NO_SETS:
            with self.subTest(thing=thing):
                self.untouched(self.refused, NoSpan, outside, thing)
                for action in (united, common):
                    for good in ([], ALL):
                        self.untouched(self.refused, NoSpan, action, thing, good)
                        self.untouched(self.refused, NoSpan, action, good, thing)
                    self.untouched(self.refused, NoSpan, action, thing, thing)

    def test_odd_things_are_refused(self):
        for thing in odd_things() + [knotted()]:
            for told in (thing, [thing], [ALL[0], thing], [(thing, None)]):
                self.refused(NoSpan, outside, told)
                for action in (united, common):
                    self.refused(NoSpan, action, told, [])
                    self.refused(NoSpan, action, [], told)


class HasTest(Case):

    def test_from_low_on_below_high(self):
        one = [((1, 3), (1, 2)), ((2, 3), (5, 1)), ((6, 1), None)]
        told = [((0, 1), False), ((1, 4), False), ((1, 3), True), ((2, 5), True), ((1, 2), False),
                ((3, 5), False), ((2, 3), True), ((49, 10), True), ((5, 1), False), ((6, 1), True),
                ((GREAT, 1), True)]
        for width, found in told:
            self.assertIs(self.untouched(has, one, width), found, width)

    def test_a_width_below_0_is_in_none(self):
        for one in SETS:
            for width in [(-1, 1), (-1, GREAT), (-GREAT, 1)]:
                self.assertIs(has(one, width), False)

    def test_each_set_at_each_width(self):
        for one in SETS:
            for width in WIDTHS:
                self.assertIs(has(one, width), in_some(one, width), (one, width))

    def test_nothing_is_looked_at(self):
        for one in NO_SETS:
            for width in WIDTHS:
                self.assertIs(self.untouched(has, one, width).__class__, bool)


class OwnListTest(Case):
    """What is told is a new list and the asker's own."""

    def check(self, action, *told):
        first = self.untouched(action, *told)
        kept = list(first)
        for one in told:
            self.assertIsNot(first, one)
        first.append(((7, 1), None))
        first.insert(0, None)
        second = self.untouched(action, *told)
        self.assertEqual(second, kept)
        self.assertIsNot(second, first)
        for one in told:
            self.assertIsNot(second, one)

    def test_own_lists(self):
        for one in SETS:
            self.check(spans_of, one)
            self.check(outside, one)
            for other in ([], ALL, one):
                self.check(united, one, other)
                self.check(united, other, one)
                self.check(common, one, other)
                self.check(common, other, one)

    def test_a_list_that_is_changed_later_changes_nothing_told(self):
        one = [((1, 1), (2, 1))]
        other = [((3, 1), None)]
        told = [united(one, other), common(one, ALL), outside(one), spans_of(one)]
        kept = [list(found) for found in told]
        one.append(((5, 1), None))
        del other[0]
        self.assertEqual(told, kept)


if __name__ == "__main__":
    unittest.main()
