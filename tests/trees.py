"""Trees of many kinds, made by chance from a number that tells which, and by hand."""

import random

from words import kids_told, trees_told

SOME = [0, 0, 1, 5, 10, 20]
WEIGHTS = [0, 0, 1, 1, 2, 3, 7, 20]


def sizes_by_chance(chance, top=60):
    three = sorted([chance.choice(SOME + [chance.randrange(top)] * 3) for _ in range(3)])
    return (three[1], three[0], chance.choice([None, three[2], three[2]]), chance.choice(WEIGHTS), chance.choice(WEIGHTS))


def tree_by_chance(chance, boxes=40, within=6, kids=6):
    """A tree of at most so many boxes, so many within one another, so many kids of each."""
    left = [chance.randrange(1, boxes + 1)]
    names = iter([f"b{at}" for at in range(boxes)])

    def made(depth):
        left[0] -= 1
        name = next(names)
        kind = chance.choice(["box", "row", "row", "column"])
        if depth == 1:
            kind = chance.choice(["row", "row", "column", "column", "box"])
        if kind == "box" or depth == within:
            return ("box", name, sizes_by_chance(chance), chance.choice([0, 1, 3, 10]))
        trees = []
        for _ in range(chance.randrange(kids + 1)):
            if left[0] > 0:
                trees.append(made(depth + 1))
        gap = chance.choice([0, 0, 1, 3, 10])
        lean = chance.choice(["left", "amid", "right"])
        if kind == "row":
            return ("row", name, sizes_by_chance(chance), gap, lean, chance.random() < 0.6, tuple(trees))
        return ("column", name, sizes_by_chance(chance), gap, lean, tuple(trees))

    return made(1)


def trees_by_chance(number, many, **bounds):
    chance = random.Random(number)
    return [tree_by_chance(chance, **bounds) for _ in range(many)]


def bends(tree):
    """Whole widths at which something may change in the tree, were each box as wide as the whole, rising."""
    found = {0}
    for one in trees_told(tree):
        found.update([size for size in one[2][:3] if size is not None])
        kids = kids_told(one)
        for first in range(len(kids)):
            for last in range(first + 1, len(kids) + 1):
                sizes = [kid[2] for kid in kids[first:last]]
                gaps = one[3] * (last - first - 1)
                found.add(sum([size[0] for size in sizes]) + gaps)
                found.add(sum([size[1] for size in sizes]) + gaps)
                if all(size[2] is not None for size in sizes):
                    found.add(sum([size[2] for size in sizes]) + gaps)
    return sorted(found)


HAND = [
    ("box", "a", (10, 5, 20, 1, 2), 7),
    ("row", "a", (0, 0, None, 0, 0), 5, "left", False, ()),
    ("row", "a", (0, 0, None, 0, 0), 5, "amid", True, ()),
    ("column", "a", (0, 0, None, 0, 0), 1000, "right", ()),
    # sizes at their bounds
    ("row", "a", (1000, 1000, 1000, 20, 20), 1000, "right", True, (
        ("box", "b", (1000, 1000, 1000, 20, 20), 1000), ("box", "c", (1000, 0, None, 20, 20), 1000),
        ("box", "d", (0, 0, 0, 20, 20), 0), ("box", "e", (0, 0, None, 0, 0), 1000))),
    ("column", "a", (1000, 0, None, 20, 20), 1000, "amid", (
        ("box", "b", (1000, 1000, 1000, 0, 0), 1000), ("box", "c", (0, 0, 0, 0, 0), 1000),
        ("row", "d", (1000, 0, 1000, 0, 0), 1000, "amid", False, (
            ("box", "e", (1000, 1000, None, 0, 0), 1), ("box", "f", (1000, 999, None, 0, 1), 2))))),
    # boxes that are wider than all lines
    ("row", "a", (0, 0, None, 0, 0), 2, "amid", True, (
        ("box", "b", (50, 40, 60, 1, 1), 3), ("box", "c", (5, 0, 9, 1, 1), 4), ("box", "d", (5, 0, 9, 2, 1), 6),
        ("row", "e", (30, 30, None, 1, 0), 1, "right", True, (
            ("box", "f", (10, 10, 12, 1, 1), 1), ("box", "g", (10, 4, 12, 1, 1), 2), ("box", "h", (9, 9, 9, 1, 1), 1))))),
    # a row whose lines end otherwise, and no box stands elsewhere
    ("row", "a", (0, 0, None, 0, 0), 0, "left", True, (
        ("box", "b", (0, 0, None, 0, 0), 0), ("box", "c", (10, 0, None, 1, 1), 5))),
]

# Told at all widths in 400 pieces, just as many as are told; swept in more stretches than that.
FOUR_HUNDRED = """\
row top 0 0 - 1 1 5 right breaks
  box b35 33 11 35 2 4 0
  row b33 90 20 - 1 2 3 left breaks
    box b34 58 46 75 3 1 4
    row b0 60 10 - 1 1 0 amid breaks
      box b1 65 15 66 2 4 5
      box b2 67 37 74 2 3 1
      box b3 41 33 52 3 1 5
      box b4 39 2 72 2 1 3
      box b5 58 14 69 4 1 1
      box b6 12 2 53 4 4 7
      box b7 73 38 84 2 4 3
      box b8 73 69 99 1 2 6
      box b9 17 17 24 4 1 8
      box b10 58 0 90 4 4 1
    row b11 100 10 - 1 1 3 amid breaks
      box b12 63 47 64 4 2 0
      box b13 11 3 31 4 4 7
      box b14 86 14 90 3 2 7
      box b15 51 36 57 3 2 7
      box b16 39 38 56 1 1 3
      box b17 87 39 96 4 1 7
      box b18 59 8 64 4 1 2
      box b19 55 35 83 1 1 2
      box b20 36 21 55 4 1 3
      box b21 79 60 87 1 4 2
  row b22 140 10 - 1 1 0 amid breaks
    box b23 79 49 83 3 1 8
    box b24 45 32 75 2 3 8
    box b26 37 25 67 4 2 5
    box b27 65 33 71 3 3 8
    box b28 61 54 72 1 2 2
    box b29 14 5 58 1 3 7
    box b30 87 48 89 3 3 5
    box b31 42 23 56 1 4 6
    box b32 46 5 79 1 3 6
  box b36 21 21 60 1 1 0
"""

# A column of rows that break, each of as many boxes as may be: 438 pieces, so more than are told.
BREAKING_ROWS = """\
column all 100 0 - 1 1 3 left
  row r9 100 0 - 1 1 4 amid breaks
    box a5 195 0 198 3 1 10
    box a12 98 98 99 2 1 50
    box a6 267 0 270 1 0 47
    box a0 79 39 85 1 2 27
    box a7 409 0 416 3 0 42
    box a1 286 143 292 2 1 7
    box a8 315 157 317 1 1 31
    box a2 253 126 256 1 1 2
    box a9 128 0 132 3 2 28
    box a3 269 269 270 3 1 33
    box a10 111 55 120 1 2 31
    box a4 420 0 421 2 0 45
  row r8 100 0 - 1 1 4 amid breaks
    box b5 27 0 32 3 0 18
    box b12 413 413 415 1 1 33
    box b6 267 267 273 3 2 42
    box b0 289 289 292 2 2 10
    box b7 416 0 422 3 2 39
    box b1 286 0 290 1 1 47
    box b8 385 192 389 3 2 48
    box b2 225 0 233 1 2 36
    box b9 373 186 382 3 1 6
    box b3 164 0 173 1 1 30
    box b10 377 188 379 2 2 13
    box b4 434 434 439 1 0 3
  row r7 100 0 - 1 1 4 amid breaks
    box c5 153 0 161 2 1 50
    box c12 294 294 302 2 2 49
    box c6 351 351 352 2 0 4
    box c0 338 169 339 2 1 25
    box c7 430 215 438 3 0 41
    box c1 335 335 337 1 2 12
    box c8 427 0 434 2 0 42
    box c2 22 0 26 2 1 35
    box c9 44 22 53 1 0 13
    box c3 80 40 84 1 1 22
    box c10 349 174 353 1 1 15
    box c4 231 0 236 3 1 38
"""


def nested_by_chance(number, many, within, kids):
    """Trees of rows that break within rows that break, so that many widths are their ends."""
    chance = random.Random(number)

    def made(depth, names):
        name = next(names)
        if depth == within:
            return ("box", name, sizes_by_chance(chance), chance.randrange(9))
        trees = [made(depth + 1, names)]
        trees += [("box", next(names), sizes_by_chance(chance), chance.randrange(9)) for _ in range(kids - 1)]
        chance.shuffle(trees)
        lean = chance.choice(["left", "amid", "right"])
        return ("row", name, sizes_by_chance(chance), chance.randrange(4), lean, True, tuple(trees))

    return [made(1, iter([f"b{at}" for at in range(40)])) for _ in range(many)]
