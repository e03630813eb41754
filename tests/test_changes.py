import random
import unittest
from fractions import Fraction

from helpers import Case, Sullen, knotted, odd_things, part
from test_boxes import NO_BREAKS, NO_LEANS, NO_SIZE, NO_SIZES, NO_WEIGHT
from test_laying import NO_WIDTHS, column, fixed, plain, row
from trees import HAND, bends, sizes_by_chance, trees_by_chance
from widthwise.boxes import Box, box_of
from widthwise.changes import Sheet, changed
from widthwise.errors import NoBox, NoChange, NoPart
from widthwise.laying import laid
from words import kids_told, laid_told, line_told, lines_told, trees_told

SIZES = (10, 5, 20, 1, 2)
NO_NAMES = ["", "x", "A", "ab", "c ", "box", "row", "left", "abcdefghi", None, 0, True, b"c", ("c",), ["c"], {"c"}, {"c": 1}]

TREE = column(
    "a", row("b", fixed("c", 10, 3), fixed("d", 20, 5), plain("e", (30, 15, 40, 1, 1), 2), gap=5, breaks=True),
    plain("f", (10, 8, 12, 1, 1), 4), column("g", fixed("h", 7)), row("i"), gap=1)
NAMES = "abcdefghi"


def edited(tree, change):
    """The tree behind a change by the words of point 91, None where it cannot be done."""
    kind, name = change[0], change[1]
    places = {"sizes": 2, "tall": 3, "gap": 3, "lean": 4, "breaks": 5}
    rows = [one[1] for one in trees_told(tree)]
    if name not in rows:
        return None
    found = [one for one in trees_told(tree) if one[1] == name][0]
    around = [one for one in trees_told(tree) if name in [kid[1] for kid in kids_told(one)]]
    lets = {"tall": ["box"], "gap": ["row", "column"], "lean": ["row", "column"], "breaks": ["row"], "put": ["row", "column"]}
    if found[0] not in lets.get(kind, ["box", "row", "column"]) or (kind in ("drop", "swap") and not around):
        return None
    if kind in places:
        other = list(found)
        other[places[kind]] = change[2]
        return set_in(tree, name, tuple(other))
    box = found if kind == "put" else around[0]
    kids = list(kids_told(box))
    if kind == "put":
        if not 0 <= change[2] <= len(kids):
            return None
        kids.insert(change[2], change[3])
    elif kind == "drop":
        kids.remove(found)
    else:
        names = [kid[1] for kid in kids]
        if change[2] not in names or change[2] == name:
            return None
        one, other = names.index(name), names.index(change[2])
        kids[one], kids[other] = kids[other], kids[one]
    return set_in(tree, box[1], box[:-1] + (tuple(kids),))


def set_in(tree, name, other):
    if tree[1] == name:
        return other
    return tree if tree[0] == "box" else tree[:-1] + (tuple(set_in(kid, name, other) for kid in tree[-1]),)


def is_tree(tree):
    try:
        box_of(tree)
    except NoBox:
        return False
    return True


def change_by_chance(chance, tree, new):
    names = [one[1] for one in trees_told(tree)] + ["none"]
    name, other = chance.choice(names), chance.choice(names)
    kind = chance.choice(["sizes", "tall", "gap", "lean", "breaks", "put", "put", "drop", "swap", "swap"])
    if kind == "put":
        kid = chance.choice([fixed(new, 5), row(new), column(new, fixed(new + "k", 9)), plain(other, SIZES)])
        return (kind, name, chance.randrange(5), kid)
    worth = {"sizes": sizes_by_chance(chance), "tall": chance.randrange(20), "gap": chance.choice([0, 1, 3, 1000, 1001]),
             "lean": chance.choice(["left", "amid", "right"]), "breaks": chance.random() < 0.5, "swap": other}
    return (kind, name) if kind == "drop" else (kind, name, worth[kind])


class ChangedCase(Case):

    def told(self, tree, change, expected):
        box = box_of(tree)
        found = self.untouched(lambda told: changed(box, told), change)
        self.assertIsInstance(found, Box)
        self.assertEqual(found.tree(), expected)
        self.assertEqual(box.tree(), tree)
        self.assertEqual(box.names(), [one[1] for one in trees_told(tree)])

    def none(self, change, tree=TREE):
        box = box_of(tree)
        self.refused(NoChange, changed, box, change)
        self.assertEqual(box.tree(), tree)


class ChangedTest(ChangedCase):

    def test_sizes(self):
        self.told(plain("a", SIZES, 7), ("sizes", "a", (0, 0, None, 20, 20)), plain("a", (0, 0, None, 20, 20), 7))
        for name in NAMES:
            old = [one for one in trees_told(TREE) if one[1] == name][0]
            self.told(TREE, ("sizes", name, (1, 1, 1, 7, 7)), set_in(TREE, name, old[:2] + ((1, 1, 1, 7, 7),) + old[3:]))

    def test_tall(self):
        self.told(plain("a", SIZES, 7), ("tall", "a", 0), plain("a", SIZES, 0))
        self.told(TREE, ("tall", "f", 1000), set_in(TREE, "f", plain("f", (10, 8, 12, 1, 1), 1000)))
        for name in "abgi":
            self.none(("tall", name, 5))

    def test_gap(self):
        self.told(row("a", fixed("b", 1)), ("gap", "a", 1000), row("a", fixed("b", 1), gap=1000))
        self.told(column("a", fixed("b", 1)), ("gap", "a", 3), column("a", fixed("b", 1), gap=3))
        self.told(TREE, ("gap", "i", 3), set_in(TREE, "i", row("i", gap=3)))
        for name in "cdefh":
            self.none(("gap", name, 5))

    def test_lean(self):
        for lean in ("left", "amid", "right"):
            self.told(row("a", fixed("b", 1)), ("lean", "a", lean), row("a", fixed("b", 1), lean=lean))
            self.told(column("a", fixed("b", 1)), ("lean", "a", lean), column("a", fixed("b", 1), lean=lean))
            for name in "cdefh":
                self.none(("lean", name, lean))

    def test_breaks(self):
        for breaks in (True, False):
            self.told(row("a", fixed("b", 1)), ("breaks", "a", breaks), row("a", fixed("b", 1), breaks=breaks))
            for name in "acdefgh":
                self.none(("breaks", name, breaks))

    def test_put(self):
        kid = row("new", fixed("kid", 3))
        for at in range(4):
            kids = list(TREE[-1][0][-1])
            kids.insert(at, kid)
            self.told(TREE, ("put", "b", at, kid), set_in(TREE, "b", TREE[-1][0][:-1] + (tuple(kids),)))
        self.told(row("a"), ("put", "a", 0, fixed("b", 1)), row("a", fixed("b", 1)))
        self.told(column("a"), ("put", "a", 0, fixed("b", 1)), column("a", fixed("b", 1)))
        self.told(TREE, ("put", "a", 4, kid), TREE[:-1] + (TREE[-1] + (kid,),))

    def test_put_that_cannot_be_done(self):
        kid = fixed("new", 3)
        for at in (-1, -4, 4, 5, 10 ** 50, True, False, None, "0", (0,), (0, 1), [0], Sullen()):
            self.none(("put", "b", at, kid))
        for name in "cdefh":
            self.none(("put", name, 0, kid))
        # Names would be alike.
        for name in NAMES:
            self.none(("put", "b", 0, fixed(name, 3)))
        self.none(("put", "b", 0, row("new", fixed("c", 3))))
        self.none(("put", "b", 0, row("new", fixed("new", 3))))
        for thing in odd_things() + [knotted(), list(kid), kid[:3], box_of(kid), (kid,), row("new", list(kid)),
                                     plain("box", SIZES), plain("new", (5, 6, 7, 1, 1)), plain("new", SIZES, 1001),
                                     row("new", gap=-1), row("new", lean="middle"), row("new", breaks=1)]:
            self.none(("put", "b", 0, thing))

    def test_put_beyond_the_bounds(self):
        twelve = row("a", *[fixed(f"k{at}", 1) for at in range(12)])
        self.none(("put", "a", 0, fixed("new", 1)), twelve)
        eleven = row("a", *[fixed(f"k{at}", 1) for at in range(11)])
        self.assertEqual(len(changed(box_of(eleven), ("put", "a", 11, fixed("new", 1))).kids()), 12)
        full = column("top", *[row(f"r{at}", *[fixed(f"k{at}x{one}", 1) for one in range(12)]) for at in range(3)])
        self.none(("put", "top", 0, fixed("new", 1)), full)
        less = changed(box_of(full), ("drop", "k0x0"))
        self.assertEqual(len(changed(less, ("put", "top", 0, fixed("new", 1))).names()), 40)
        self.none(("put", "top", 0, row("new", fixed("kid", 1))), less.tree())
        six = row("l1", row("l2", row("l3", row("l4", row("l5", row("l6"))))))
        self.none(("put", "l6", 0, fixed("new", 1)), six)
        self.none(("put", "l5", 0, row("new", fixed("kid", 1))), six)
        self.assertEqual(changed(box_of(six), ("put", "l5", 0, row("new"))).names()[-2:], ["new", "l6"])

    def test_drop(self):
        self.told(TREE, ("drop", "d"), set_in(TREE, "b", TREE[-1][0][:-1] + ((TREE[-1][0][-1][0], TREE[-1][0][-1][2]),)))
        self.told(TREE, ("drop", "b"), TREE[:-1] + (TREE[-1][1:],))
        self.told(TREE, ("drop", "h"), set_in(TREE, "g", column("g")))
        self.told(TREE, ("drop", "i"), TREE[:-1] + (TREE[-1][:-1],))

    def test_the_whole_is_not_dropped(self):
        self.none(("drop", "a"))
        self.none(("drop", "a"), plain("a", SIZES))
        self.none(("drop", "a"), row("a"))

    def test_swap(self):
        c, d, e = TREE[-1][0][-1]
        for one, other, kids in [("c", "d", (d, c, e)), ("c", "e", (e, d, c)), ("e", "d", (c, e, d))]:
            expected = set_in(TREE, "b", TREE[-1][0][:-1] + (kids,))
            self.told(TREE, ("swap", one, other), expected)
            self.told(TREE, ("swap", other, one), expected)
        b, f, g, i = TREE[-1]
        self.told(TREE, ("swap", "g", "b"), TREE[:-1] + ((g, f, b, i),))

    def test_swap_that_cannot_be_done(self):
        for one, other in [("c", "f"), ("c", "h"), ("b", "c"), ("c", "b"), ("a", "b"), ("b", "a"), ("a", "a"), ("c", "c"),
                           ("h", "h"), ("c", "x"), ("x", "c"), ("x", "y"), ("x", "x")]:
            self.none(("swap", one, other))

    def test_names_that_are_not_there(self):
        for name in NO_NAMES + odd_things() + [knotted()]:
            self.none(("sizes", name, SIZES))
            self.none(("tall", name, 5))
            self.none(("gap", name, 5))
            self.none(("lean", name, "left"))
            self.none(("breaks", name, True))
            self.none(("put", name, 0, fixed("new", 1)))
            self.none(("drop", name))
            self.none(("swap", name, "c"))
            self.none(("swap", "c", name))

    def test_what_a_tree_cannot_have(self):
        odd = odd_things() + [knotted()]
        for sizes in NO_SIZES + [thing for thing in odd if thing is not None]:
            self.none(("sizes", "c", sizes))
        for wrong in NO_WEIGHT:
            self.none(("sizes", "b", (10, 5, 20, wrong, 2)))
        for number in NO_SIZE + [thing for thing in odd if thing.__class__ is not int or not 0 <= thing <= 1000]:
            self.none(("tall", "c", number))
            self.none(("gap", "b", number))
            self.none(("gap", "a", number))
        for lean in NO_LEANS + odd:
            self.none(("lean", "b", lean))
            self.none(("lean", "a", lean))
        for breaks in NO_BREAKS + [thing for thing in odd if thing is not True and thing is not False]:
            self.none(("breaks", "b", breaks))

    def test_what_is_no_change(self):
        good = [("sizes", "c", SIZES), ("tall", "c", 5), ("gap", "b", 5), ("lean", "b", "left"), ("breaks", "b", True),
                ("put", "b", 0, fixed("new", 1)), ("drop", "c"), ("swap", "c", "d")]
        for change in good:
            changed(box_of(TREE), change)
            self.none(list(change))
            self.none(change[:-1])
            self.none(change + (None,))
            self.none(change + change[-1:])
            self.none((change,))
            self.none((change[0],))
            self.none(change[::-1])
            for word in ["", "size", "Sizes", "talls", "height", "move", "box", change[0] + " ", change[0].upper(), b"drop",
                         None, True, 0, 2, (change[0],), [change[0]], Sullen()]:
                self.none((word,) + change[1:])
        for thing in odd_things() + [knotted(), "drop", ("drop",), ("drop", "c", "d"), {"drop": "c"}, (knotted(), "c")]:
            self.none(thing)

    def test_by_the_words(self):
        chance = random.Random(91)
        for tree in HAND + trees_by_chance(91, 200, boxes=20):
            for at in range(25):
                change = change_by_chance(chance, tree, f"new{at}")
                expected = edited(tree, change)
                if expected is None or not is_tree(expected):
                    self.none(change, tree)
                else:
                    self.told(tree, change, expected)

    def test_what_is_told_is_a_box_of_its_own(self):
        box = box_of(TREE)
        found = changed(box, ("tall", "f", 9))
        found.kids().clear()
        found.names().clear()
        self.assertEqual(found.found("f").tall(), 9)
        self.assertEqual(box.found("f").tall(), 4)


class Layings:
    """How many boxes are laid out, by the words of point 91."""

    def __init__(self):
        self.last = {}
        self.many = 0

    def come_to(self, tree, width):
        if self.last.get(tree[1]) == (tree, width):
            return
        self.last[tree[1]] = (tree, width)
        self.many += 1
        for line in lines_told(tree, width):
            for kid, wide in zip(line, line_told(tree, tuple(line), width)[0]):
                self.come_to(kid, wide)


class SheetTest(Case):

    def test_at_first(self):
        sheet = Sheet(box_of(TREE), (7, 2))
        self.assertEqual(sheet.box().tree(), TREE)
        self.assertEqual(sheet.width(), (7, 2))
        self.assertEqual(sheet.layings(), 0)
        self.assertEqual(sheet.laid(), laid(box_of(TREE), (7, 2)))
        self.refused(NoChange, sheet.undo)
        self.refused(NoChange, sheet.redo)

    def test_change_and_widen(self):
        sheet = Sheet(box_of(TREE), (7, 2))
        self.assertIs(sheet.change(("tall", "f", 9)), None)
        self.assertIs(sheet.widen((30, 1)), None)
        self.assertIs(sheet.change(("drop", "b")), None)
        self.assertEqual(sheet.box().names(), ["a", "f", "g", "h", "i"])
        self.assertEqual(sheet.box().found("f").tall(), 9)
        self.assertEqual(sheet.width(), (30, 1))
        self.assertEqual(sheet.laid(), laid(sheet.box(), (30, 1)))

    def test_undo_and_redo(self):
        sheet = Sheet(box_of(TREE), (0, 1))
        sheet.change(("tall", "f", 9))
        sheet.widen((30, 1))
        sheet.change(("drop", "b"))
        for names, width, tall in [(9, (30, 1), 9), (9, (0, 1), 9), (9, (0, 1), 4)]:
            self.assertIs(sheet.undo(), None)
            self.assertEqual((len(sheet.box().names()), sheet.width(), sheet.box().found("f").tall()), (names, width, tall))
        self.refused(NoChange, sheet.undo)
        self.assertEqual(sheet.box().tree(), TREE)
        for names, width, tall in [(9, (0, 1), 9), (9, (30, 1), 9), (5, (30, 1), 9)]:
            self.assertIs(sheet.redo(), None)
            self.assertEqual((len(sheet.box().names()), sheet.width(), sheet.box().found("f").tall()), (names, width, tall))
        self.refused(NoChange, sheet.redo)
        self.assertEqual(len(sheet.box().names()), 5)

    def test_what_is_done_anew_ends_what_could_be_done_again(self):
        for anew in (lambda one: one.change(("tall", "c", 1)), lambda one: one.widen((5, 1))):
            sheet = Sheet(box_of(TREE), (0, 1))
            sheet.change(("tall", "f", 9))
            sheet.widen((30, 1))
            sheet.undo()
            anew(sheet)
            self.refused(NoChange, sheet.redo)
            sheet.undo()
            self.assertEqual((sheet.box().found("f").tall(), sheet.width()), (9, (0, 1)))
            sheet.undo()
            self.assertEqual((sheet.box().tree(), sheet.width()), (TREE, (0, 1)))
            self.refused(NoChange, sheet.undo)

    def test_a_change_to_what_it_is_already_is_one_too(self):
        sheet = Sheet(box_of(TREE), (5, 1))
        sheet.widen((5, 1))
        sheet.change(("tall", "f", 4))
        sheet.undo()
        sheet.undo()
        self.refused(NoChange, sheet.undo)
        sheet.redo()
        sheet.redo()
        self.refused(NoChange, sheet.redo)

    def test_what_is_refused_changes_nothing_and_ends_nothing(self):
        sheet = Sheet(box_of(TREE), (0, 1))
        sheet.change(("tall", "f", 9))
        sheet.widen((30, 1))
        sheet.undo()
        sheet.laid()
        many = sheet.layings()
        for change in odd_things() + [knotted(), ("drop", "a"), ("tall", "b", 1), ("tall", "f", 1001), ("swap", "c", "c")]:
            self.refused(NoChange, sheet.change, change)
        for width in NO_WIDTHS + odd_things():
            self.refused(NoPart, sheet.widen, width)
        self.assertEqual(sheet.laid(), laid(sheet.box(), (0, 1)))
        self.assertEqual(sheet.layings(), many)
        sheet.redo()
        self.assertEqual(sheet.width(), (30, 1))
        self.refused(NoChange, sheet.redo)
        sheet.undo()
        sheet.undo()
        self.refused(NoChange, sheet.undo)
        self.assertEqual(sheet.box().tree(), TREE)

    def test_a_width_that_is_none(self):
        for width in NO_WIDTHS + odd_things():
            self.refused(NoPart, Sheet, box_of(TREE), width)

    def test_the_box_handed_in_stays_as_it_was(self):
        box = box_of(TREE)
        sheet = Sheet(box, (5, 1))
        sheet.change(("drop", "b"))
        sheet.laid()
        self.assertEqual(box.tree(), TREE)
        self.assertEqual(laid(box, (5, 1)), Sheet(box, (5, 1)).laid())

    def test_the_lists_told_are_the_askers_own(self):
        sheet = Sheet(box_of(TREE), (50, 1))
        expected = laid(box_of(TREE), (50, 1))
        for _ in range(3):
            told = sheet.laid()
            self.assertEqual(told, expected)
            told.clear()
        sheet.change(("put", "a", 0, fixed("new", 3)))
        self.assertEqual(sheet.laid(), laid(sheet.box(), (50, 1)))


class LayingsTest(Case):

    def laying(self, sheet, many):
        """laid() tells what laying out from the start tells, and lays out just so many boxes."""
        before = sheet.layings()
        self.assertEqual(sheet.laid(), laid(sheet.box(), sheet.width()))
        self.assertEqual(sheet.layings() - before, many)

    def test_all_at_first_then_none(self):
        sheet = Sheet(box_of(TREE), (50, 1))
        self.laying(sheet, 9)
        self.laying(sheet, 0)
        self.laying(sheet, 0)

    def test_other_ways_to_lay_out_do_not_count(self):
        sheet = Sheet(box_of(TREE), (50, 1))
        laid(sheet.box(), sheet.width())
        sheet.widen((60, 1))
        sheet.undo()
        self.assertEqual(sheet.layings(), 0)
        self.laying(sheet, 9)

    def test_what_is_around_a_changed_box_is_laid_out_and_nothing_else(self):
        sheet = Sheet(box_of(TREE), (50, 1))
        self.laying(sheet, 9)
        sheet.change(("tall", "h", 9))
        self.laying(sheet, 3)
        sheet.change(("gap", "a", 9))
        self.laying(sheet, 1)
        sheet.change(("lean", "b", "right"))
        self.laying(sheet, 2)
        sheet.change(("swap", "f", "g"))
        self.laying(sheet, 1)
        sheet.change(("drop", "b"))
        self.laying(sheet, 1)

    def test_a_box_of_another_width_is_laid_out(self):
        tree = row("a", plain("b", (10, 0, None, 1, 1)), column("c", fixed("d", 3), sizes=(5, 5, 5, 0, 0)))
        sheet = Sheet(box_of(tree), (20, 1))
        self.laying(sheet, 4)
        sheet.widen((21, 1))
        self.laying(sheet, 2)
        sheet.change(("sizes", "c", (6, 6, 6, 0, 0)))
        self.laying(sheet, 3)

    def test_a_change_and_its_undo(self):
        sheet = Sheet(box_of(TREE), (50, 1))
        self.laying(sheet, 9)
        sheet.change(("tall", "h", 9))
        sheet.undo()
        self.laying(sheet, 0)
        sheet.redo()
        self.laying(sheet, 3)
        # What was laid out last counts, not what was laid out ever.
        sheet.undo()
        self.laying(sheet, 3)
        sheet.redo()
        self.laying(sheet, 3)

    def test_a_box_that_was_away_is_as_it_was_laid_out_last(self):
        sheet = Sheet(box_of(TREE), (50, 1))
        self.laying(sheet, 9)
        sheet.change(("drop", "b"))
        self.laying(sheet, 1)
        sheet.undo()
        self.laying(sheet, 1)

    def test_another_box_of_the_same_name(self):
        sheet = Sheet(box_of(TREE), (50, 1))
        self.laying(sheet, 9)
        sheet.change(("drop", "g"))
        sheet.change(("put", "a", 0, column("g", fixed("h", 7))))
        self.laying(sheet, 1)
        sheet.change(("drop", "g"))
        sheet.change(("put", "a", 0, column("g", fixed("h", 8))))
        self.laying(sheet, 3)
        sheet.change(("drop", "g"))
        sheet.change(("put", "b", 0, fixed("g", 8)))
        self.laying(sheet, 3)

    def test_a_box_within_one_that_is_taken_over_keeps_what_it_was_laid_out_with_last(self):
        tree = column("a", row("b", fixed("c", 5), fixed("d", 5)), row("e"))
        sheet = Sheet(box_of(tree), (50, 1))
        self.laying(sheet, 5)
        sheet.change(("drop", "b"))
        sheet.change(("put", "e", 0, fixed("c", 6)))
        self.laying(sheet, 3)
        for _ in range(2):
            sheet.undo()
        # b and, in it, the c of before are taken over; c was last laid out as another one.
        self.laying(sheet, 2)
        sheet.change(("gap", "b", 1))
        self.laying(sheet, 3)

    def test_rows_of_changes_forth_and_back(self):
        chance = random.Random(92)
        for tree in HAND + trees_by_chance(93, 250, boxes=20):
            width = Fraction(chance.choice(bends(tree)))
            sheet = Sheet(box_of(tree), part(width))
            states, at, model = [(tree, width)], 0, Layings()
            for step in range(30):
                kind = chance.choice(["change", "change", "widen", "undo", "redo", "laid", "laid"])
                if kind == "change":
                    change = change_by_chance(chance, states[at][0], f"new{step}")
                    other = edited(states[at][0], change)
                    if other is None or not is_tree(other):
                        self.refused(NoChange, sheet.change, change)
                    else:
                        sheet.change(change)
                        states[at + 1:] = [(other, states[at][1])]
                        at += 1
                elif kind == "widen":
                    width = chance.choice(bends(states[at][0])) + chance.choice([0, 0, Fraction(1, 3)])
                    sheet.widen(part(width))
                    states[at + 1:] = [(states[at][0], Fraction(width))]
                    at += 1
                elif kind == "undo" and at > 0:
                    sheet.undo()
                    at -= 1
                elif kind == "redo" and at + 1 < len(states):
                    sheet.redo()
                    at += 1
                elif kind in ("undo", "redo"):
                    self.refused(NoChange, sheet.undo if kind == "undo" else sheet.redo)
                else:
                    model.come_to(*states[at])
                    rows = [(one[0],) + tuple(part(number) for number in one[1:]) for one in laid_told(*states[at])]
                    self.assertEqual(sheet.laid(), rows)
                self.assertEqual((sheet.box().tree(), sheet.width()), (states[at][0], part(states[at][1])))
                self.assertEqual(sheet.layings(), model.many)


if __name__ == "__main__":
    unittest.main()
