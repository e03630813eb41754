"""Trees of many kinds, made by chance from a number that tells which, and by hand."""

import random

from words import kids_told, trees_told

SOME = [0, 0, 1, 5, 10, 20]
WEIGHTS = [0, 0, 1, 1, 2, 3, 7, 20]


def sizes_by_chance(chance, top=60):
    three = sorted([chance.choice(SOME + [chance.randrange(top)] * 3) for _ in range(3)])
    return (three[1], three[0], chance.choice([None, three[2], three[2]]), chance.choice(WEIGHTS), chance.choice(WEIGHTS))


def tree_by_chance(chance, boxes=40, within=6, kids=6):
    """A tree of at most so many boxes, so many within one another, so many kids of each."""
    left = [chance.randrange(1, boxes + 1)]
    names = iter([f"b{at}" for at in range(boxes)])

    def made(depth):
        left[0] -= 1
        name = next(names)
        kind = chance.choice(["box", "row", "row", "column"])
        if depth == 1:
            kind = chance.choice(["row", "row", "column", "column", "box"])
        if kind == "box" or depth == within:
            return ("box", name, sizes_by_chance(chance), chance.choice([0, 1, 3, 10]))
        trees = []
        for _ in range(chance.randrange(kids + 1)):
            if left[0] > 0:
                trees.append(made(depth + 1))
        gap = chance.choice([0, 0, 1, 3, 10])
        lean = chance.choice(["left", "amid", "right"])
        if kind == "row":
            return ("row", name, sizes_by_chance(chance), gap, lean, chance.random() < 0.6, tuple(trees))
        return ("column", name, sizes_by_chance(chance), gap, lean, tuple(trees))

    return made(1)


def trees_by_chance(number, many, **bounds):
    chance = random.Random(number)
    return [tree_by_chance(chance, **bounds) for _ in range(many)]


def bends(tree):
    """Whole widths at which something may change in the tree, were each box as wide as the whole, rising."""
    found = {0}
    for one in trees_told(tree):
        found.update([size for size in one[2][:3] if size is not None])
        kids = kids_told(one)
        for first in range(len(kids)):
            for last in range(first + 1, len(kids) + 1):
                sizes = [kid[2] for kid in kids[first:last]]
                gaps = one[3] * (last - first - 1)
                found.add(sum([size[0] for size in sizes]) + gaps)
                found.add(sum([size[1] for size in sizes]) + gaps)
                if all(size[2] is not None for size in sizes):
                    found.add(sum([size[2] for size in sizes]) + gaps)
    return sorted(found)


HAND = [
    ("box", "a", (10, 5, 20, 1, 2), 7),
    ("row", "a", (0, 0, None, 0, 0), 5, "left", False, ()),
    ("row", "a", (0, 0, None, 0, 0), 5, "amid", True, ()),
    ("column", "a", (0, 0, None, 0, 0), 1000, "right", ()),
    # sizes at their bounds
    ("row", "a", (1000, 1000, 1000, 20, 20), 1000, "right", True, (
        ("box", "b", (1000, 1000, 1000, 20, 20), 1000), ("box", "c", (1000, 0, None, 20, 20), 1000),
        ("box", "d", (0, 0, 0, 20, 20), 0), ("box", "e", (0, 0, None, 0, 0), 1000))),
    ("column", "a", (1000, 0, None, 20, 20), 1000, "amid", (
        ("box", "b", (1000, 1000, 1000, 0, 0), 1000), ("box", "c", (0, 0, 0, 0, 0), 1000),
        ("row", "d", (1000, 0, 1000, 0, 0), 1000, "amid", False, (
            ("box", "e", (1000, 1000, None, 0, 0), 1), ("box", "f", (1000, 999, None, 0, 1), 2))))),
    # boxes that are wider than all lines
    ("row", "a", (0, 0, None, 0, 0), 2, "amid", True, (
        ("box", "b", (50, 40, 60, 1, 1), 3), ("box", "c", (5, 0, 9, 1, 1), 4), ("box", "d", (5, 0, 9, 2, 1), 6),
        ("row", "e", (30, 30, None, 1, 0), 1, "right", True, (
            ("box", "f", (10, 10, 12, 1, 1), 1), ("box", "g", (10, 4, 12, 1, 1), 2), ("box", "h", (9, 9, 9, 1, 1), 1))))),
    # a row whose lines end otherwise, and no box stands elsewhere
    ("row", "a", (0, 0, None, 0, 0), 0, "left", True, (
        ("box", "b", (0, 0, None, 0, 0), 0), ("box", "c", (10, 0, None, 1, 1), 5))),
]
