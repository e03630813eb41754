"""What several tests need: odd things, and checks of refusals and of what was handed in."""

import copy
import sys
import unittest
from fractions import Fraction

from widthwise import errors

KINDS = [
    errors.NoPart, errors.NoSpan, errors.NoBox, errors.NoText, errors.NoItem,
    errors.NoName, errors.NoWish, errors.NoChange, errors.NoRow, errors.TooMany,
]


class Sullen:
    """A thing that lets nothing be asked of it."""

    def _refuse(self, *rest):
        raise RuntimeError("asked")

    __eq__ = __bool__ = __len__ = __iter__ = __getitem__ = __repr__ = __str__ = _refuse
    __hash__ = None
    __lt__ = __gt__ = __le__ = __ge__ = __int__ = __index__ = __contains__ = _refuse


def knotted():
    """A list that has itself in it."""
    knot = []
    knot.append(knot)
    return knot


def steps():
    yield (0, 1)
    yield (1, 1)


def odd_things():
    """Things that are neither a part nor a set of widths, of many kinds."""
    return [
        None, True, False, 0, 1, -7, 10 ** 50, "", "1", "1/2", "(1, 2)", b"", b"\x01\x02",
        (), {}, set(), frozenset(), {1, 2}, {0: 1, 1: 2}, {(0, 1): None}, range(2), steps(),
        Sullen(), Sullen, object(), len, steps, NotImplemented, ..., Fraction(1, 2),
    ]


def fraction(part):
    return Fraction(part[0], part[1])


def part(number):
    number = Fraction(number)
    return (number.numerator, number.denominator)


def calls(action, *told):
    """How many calls of functions an action makes: what it takes, told without a clock."""
    many = [0]

    def count(_, event, __):
        if event == "call":
            many[0] += 1

    before = sys.getprofile()
    sys.setprofile(count)
    try:
        action(*told)
    finally:
        sys.setprofile(before)
    return many[0]


class Case(unittest.TestCase):

    def refused(self, kind, action, *told):
        """The action refuses what it is told with that kind, and with no other of the ten."""
        try:
            action(*told)
        except errors.WideError as wrong:
            found = [other for other in KINDS if isinstance(wrong, other)]
            self.assertEqual(found, [kind])
        else:
            self.fail("not refused")

    def untouched(self, action, *told):
        """What the action tells; what it is handed is as it was afterwards."""
        before = copy.deepcopy(told)
        answer = action(*told)
        self.assertEqual(told, before)
        return answer

    def plain_part(self, thing):
        """A thing is a tuple of two plain ints in lowest terms."""
        self.assertIs(thing.__class__, tuple)
        self.assertEqual([number.__class__ for number in thing], [int, int])
        self.assertEqual(thing, part(fraction(thing)))
