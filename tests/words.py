"""What the document's words tell, worked out plainly with Python's own fractions, for tests to compare with."""

import functools
import itertools
from fractions import Fraction

HALF = Fraction(1, 2)
AHEAD = {"left": 0, "amid": HALF, "right": 1}


def width_told(item, share):
    """How wide an item is with a share, a Fraction, by the words of point 32."""
    wish, least, most, grow, shrink = item
    if share >= 0:
        width = wish + share * grow
        return width if most is None else min(width, Fraction(most))
    return max(wish + share * shrink, Fraction(least))


def sum_told(items, share):
    return sum([width_told(item, share) for item in items], Fraction(0))


def share_told(items, room):
    """The share by point 33, looked for from bend to bend: between two of them the widths' sum grows evenly."""
    wishes = sum_told(items, Fraction(0))
    sign = -1 if room < wishes else 1
    bends = {Fraction(0)}
    for wish, least, most, grow, shrink in items:
        if sign == 1 and grow and most is not None:
            bends.add(Fraction(most - wish, grow))
        if sign == -1 and shrink:
            bends.add(Fraction(least - wish, shrink))
    bends = sorted(bends, key=abs)
    for low, high in itertools.pairwise(bends):
        at_low, at_high = sum_told(items, low), sum_told(items, high)
        if min(at_low, at_high) <= room <= max(at_low, at_high):
            if at_low == room:
                return low
            return low + (high - low) * (room - at_low) / (at_high - at_low)
    last = bends[-1]
    pace = sum_told(items, last + sign) - sum_told(items, last)
    if pace == 0:
        return last
    return last + sign * (room - sum_told(items, last)) / pace


def goes_told(wishes, gap, width):
    return not wishes or sum(wishes) + gap * (len(wishes) - 1) <= width


def breakings(many):
    """All ways to break so many boxes into lines, each box in order, as lists of lists of numbers."""
    if many == 0:
        return [[]]
    found = []
    for ends in itertools.product([False, True], repeat=many - 1):
        lines = [[0]]
        for at, end in enumerate(ends):
            if end:
                lines.append([])
            lines[-1].append(at + 1)
        found.append(lines)
    return found


def lets(wishes, gap, width, lines):
    """Whether each line's wishes go into the width, or it has one box."""
    return all(len(line) == 1 or goes_told([wishes[at] for at in line], gap, width) for line in lines)


def kids_told(tree):
    return () if tree[0] == "box" else tree[-1]


def trees_told(tree):
    """The tree and all within it, a box ahead of its kids."""
    return [tree] + [one for kid in kids_told(tree) for one in trees_told(kid)]


def lines_told(tree, width):
    """The lines of a tree of such a width, as lists of trees, by 41, 52 and 53."""
    kids = list(kids_told(tree))
    if tree[0] != "row":
        return [[kid] for kid in kids]
    if not tree[5]:
        return [kids] if kids else []
    lines = []
    while kids:
        many = 1
        while many < len(kids) and goes_told([kid[2][0] for kid in kids[:many + 1]], tree[3], width):
            many += 1
        lines.append(kids[:many])
        kids = kids[many:]
    return lines


@functools.cache
def line_told(tree, line, width):
    """The widths of a line, a tuple of trees, in a tree of such a width, and the spare."""
    if tree[0] == "column":
        _, least, most, _, _ = line[0][2]
        wide = max(width if most is None else min(width, most), least)
        return [Fraction(wide)], max(width - wide, 0)
    items = [kid[2] for kid in line]
    room = width - tree[3] * (len(line) - 1)
    share = share_told(items, room)
    widths = [width_told(item, share) for item in items]
    return widths, max(room - sum(widths), 0)


@functools.cache
def tall_told(tree, width):
    if tree[0] == "box":
        return Fraction(tree[3])
    talls = []
    for line in lines_told(tree, width):
        widths, _ = line_told(tree, tuple(line), width)
        talls.append(max([tall_told(kid, wide) for kid, wide in zip(line, widths)]))
    return Fraction(sum(talls) + tree[3] * (len(talls) - 1) if talls else 0)


def laid_told(tree, width, x=Fraction(0), y=Fraction(0)):
    """The list of tuples (name, x, y, wide, tall), of Fractions."""
    found = [(tree[1], x, y, width, tall_told(tree, width))]
    upper = y
    for line in lines_told(tree, width):
        widths, spare = line_told(tree, tuple(line), width)
        left = x + spare * AHEAD[tree[4]]
        lower = upper
        for kid, wide in zip(line, widths):
            found += laid_told(kid, wide, left, upper)
            lower = max(lower, upper + tall_told(kid, wide))
            left += wide + tree[3]
        upper = lower + tree[3]
    return found
