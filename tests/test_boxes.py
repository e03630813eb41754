import copy
import unittest

from helpers import Case, Sullen, knotted, odd_things
from widthwise.boxes import Box, Column, Plain, Row, box_of
from widthwise.errors import NoBox, NoName

SIZES = (10, 5, 20, 1, 2)
NO_MOST = (10, 5, None, 1, 2)
MANY = 10 ** 5000


def plain(name, sizes=SIZES, tall=7):
    return ("box", name, sizes, tall)


def row(name, *kids, sizes=SIZES, gap=3, lean="left", breaks=False):
    return ("row", name, sizes, gap, lean, breaks, kids)


def column(name, *kids, sizes=SIZES, gap=3, lean="left"):
    return ("column", name, sizes, gap, lean, kids)


def named(stem, many):
    return [f"{stem}{at}" for at in range(many)]


def plains(stem, many):
    return [plain(name) for name in named(stem, many)]


def within(many):
    """A tree of so many boxes, each within the one ahead."""
    tree = plain("last")
    for at in range(many - 1):
        make = row if at % 2 else column
        tree = make(f"b{at}", tree)
    return tree


WHOLE = column(
    "page",
    row("head", plain("logo", NO_MOST, 0), plain("menu", tall=1000), gap=0, lean="right", breaks=True),
    plain("text"),
    row("feet", sizes=(0, 0, 0, 0, 0), gap=1000, lean="amid"),
    column("side", column("inner", plain("x9"), lean="amid"), gap=12, lean="right"),
    sizes=(1000, 1000, 1000, 20, 20),
)

TREES = [
    plain("a"), plain("a", (0, 0, 0, 0, 0), 0), plain("a", (1000, 1000, None, 20, 20), 1000),
    plain("a", (1000, 0, 1000, 0, 20)), plain("a", (5, 5, 5, 20, 0)), row("a"), column("a"),
    row("a", breaks=True), row("a", lean="amid"), column("a", lean="right"), row("a", gap=0), column("a", gap=1000),
    row("a", plain("b"), column("c", row("d", plain("e")))), WHOLE, within(6),
]

GOOD_NAMES = ["a", "z", "a0", "z9", "abcdefgh", "a1234567", "boxes", "rows", "bo", "col", "lefty", "break", "aamid",
              "plain", "tree", "none", "true", "zzzzzzzz"]
NO_NAMES = ["", "A", "aB", "0", "0a", "9z", "abcdefghi", "a12345678", "a b", " a", "a ", "a-b", "a_b", "_a", "-", "a.",
            "a\n", "\n", "a\x00", "\u00e9", "a\u00e9", "\uff41", "a\uff11", "a\u0661", "\u0430", "a%",
            "box", "row", "column", "left", "amid", "right", "breaks", "a" * 100000]

NO_SIZE = [-1, 1001, MANY, -MANY, True, False, None, "1", (), (1,), [1], {}]
NO_WEIGHT = [-1, 21, 1000, MANY, -MANY, True, False, None, "1", (), [1], {}]
NO_SIZES = (
    [(), (1,), (10, 5, 20, 1), (10, 5, 20, 1, 2, 3), (10, 5, 20, 1, 2, 3, 4), [10, 5, 20, 1, 2], "10512", 10, None,
     {10: 5}, {}, [], ((10, 5, 20, 1, 2),), range(5), b"\x05\x05\x05\x01\x01",
     (4, 5, 20, 1, 2), (0, 1, None, 0, 0), (10, 5, 9, 1, 2), (10, 10, 0, 1, 2), (6, 6, 5, 0, 0)]
    + [(wrong, 0, None, 1, 2) for wrong in NO_SIZE] + [(1000, wrong, None, 1, 2) for wrong in NO_SIZE]
    + [(0, 0, wrong, 1, 2) for wrong in NO_SIZE if wrong is not None]
    + [(10, 5, 20, wrong, 2) for wrong in NO_WEIGHT] + [(10, 5, 20, 1, wrong) for wrong in NO_WEIGHT]
)
NO_LEANS = ["", "Left", "LEFT", "middle", "center", "top", "box", "left ", "lef", None, True, 0, (), ("left",),
            ["left"], {"left": 1}, {"left"}, b"left"]
NO_BREAKS = [0, 1, None, "", "breaks", "True", (), [], {}, b""]
NO_KIDS = [None, [], [plain("k")], {}, {plain("k")}, {0: plain("k")}, "", "k", 0, True, plain("k"), row("k"),
           (None,), ((),), ([],), ("k",), (0,), (list(plain("k")),), (plain("k"), None), ((plain("k"),),),
           {"k": plain("k")}, b"", range(0)]


class LetByTest(Case):

    def check(self, tree):
        box = self.untouched(box_of, tree)
        self.assertEqual(box.tree(), tree)
        self.assertIs(box.tree().__class__, tuple)
        return box

    def test_trees(self):
        for tree in TREES:
            self.check(tree)

    def test_kinds(self):
        kinds = {"box": Plain, "row": Row, "column": Column}
        for tree in TREES:
            box = box_of(tree)
            self.assertIsInstance(box, Box)
            for kind in (Plain, Row, Column):
                self.assertIs(isinstance(box, kind), kind is kinds[tree[0]])

    def test_plain_row_and_column_are_under_box_alone(self):
        for kind in (Plain, Row, Column):
            self.assertTrue(issubclass(kind, Box))
            for other in (Plain, Row, Column):
                self.assertIs(issubclass(kind, other), kind is other)

    def test_names(self):
        for name in GOOD_NAMES:
            for make in (plain, row, column):
                self.assertEqual(self.check(make(name)).name(), name)

    def test_40_boxes(self):
        rows = [row(name, *plains(name, 12)) for name in ("a", "b", "c")]
        self.assertEqual(len(self.check(row("top", *rows)).names()), 40)
        pairs = [column(name, row(name + "x", plain(name + "y"))) for name in named("p", 12)]
        self.assertEqual(len(self.check(column("top", *pairs, sizes=NO_MOST)).names()), 37)

    def test_6_within_one_another(self):
        self.assertEqual(len(self.check(within(6)).names()), 6)

    def test_12_kids(self):
        for make in (row, column):
            self.assertEqual(len(self.check(make("top", *plains("k", 12))).kids()), 12)

    def test_all_small_sizes(self):
        numbers = [-1, 0, 1, 2]
        for wish in numbers:
            for least in numbers:
                for most in numbers + [None]:
                    sizes = (wish, least, most, 0, 20)
                    good = 0 <= least <= wish and (most is None or wish <= most)
                    if good:
                        self.assertEqual(self.check(plain("a", sizes)).sizes(), sizes)
                    else:
                        self.refused(NoBox, box_of, plain("a", sizes))

    def test_what_is_kept_is_not_what_was_handed_in(self):
        class Pair(tuple):
            pass
        kids = Pair([Pair(plain("b", Pair(SIZES))), Pair(row("c", sizes=Pair(SIZES)))])
        for tree in (Pair(row("a", sizes=Pair(SIZES))[:-1] + (kids,)),
                     Pair(column("a", sizes=Pair(SIZES))[:-1] + (kids,))):
            told = box_of(tree).tree()
            self.assertEqual(told, tree)
            for thing in (told, told[2], told[-1], told[-1][0], told[-1][0][2], told[-1][1], told[-1][1][2]):
                self.assertIs(thing.__class__, tuple)


class RefusedTest(Case):

    def check_within(self, tree):
        """A tree is refused alone, and as a kid, a late one, one deep down."""
        self.refused(NoBox, box_of, tree)
        self.refused(NoBox, box_of, row("outer", tree))
        deep = row("inner", plain("early"), tree)
        self.refused(NoBox, box_of, column("outer", plain("ahead"), deep, plain("behind")))

    def test_names(self):
        for name in NO_NAMES:
            for make in (plain, row, column):
                self.refused(NoBox, box_of, make(name))
                self.refused(NoBox, box_of, row("outer", make(name)))

    def test_names_of_other_kinds(self):
        for name in odd_things() + [knotted(), ["a"], ("a",), {"a": 1}, {"a"}, b"a"]:
            for make in (plain, row, column):
                self.refused(NoBox, box_of, make(name))

    def test_sizes(self):
        for sizes in NO_SIZES + odd_things() + [knotted()]:
            for make in (plain, row, column):
                self.refused(NoBox, box_of, make("a", sizes=sizes))
                self.refused(NoBox, box_of, column("outer", make("a", sizes=sizes)))

    def test_odd_things_in_sizes(self):
        for thing in odd_things() + [knotted()]:
            if thing is not None and thing.__class__ is not int:
                for at in range(5):
                    self.refused(NoBox, box_of, plain("a", (0,) * at + (thing,) + (0,) * (4 - at)))

    def test_tall_and_gap(self):
        for size in NO_SIZE + [knotted()]:
            self.refused(NoBox, box_of, plain("a", tall=size))
            self.refused(NoBox, box_of, row("a", gap=size))
            self.refused(NoBox, box_of, column("a", gap=size))

    def test_leans(self):
        for lean in NO_LEANS + odd_things() + [knotted()]:
            self.refused(NoBox, box_of, row("a", lean=lean))
            self.refused(NoBox, box_of, column("a", lean=lean))

    def test_breaks(self):
        for breaks in NO_BREAKS + [thing for thing in odd_things() if thing.__class__ is not bool]:
            self.refused(NoBox, box_of, row("a", breaks=breaks))

    def test_kids(self):
        for kids in NO_KIDS + [knotted(), (knotted(),)]:
            self.refused(NoBox, box_of, ("row", "a", SIZES, 3, "left", False, kids))
            self.refused(NoBox, box_of, ("column", "a", SIZES, 3, "left", kids))
        for thing in odd_things():
            if thing.__class__ is not tuple:
                self.refused(NoBox, box_of, ("row", "a", SIZES, 3, "left", False, thing))
            self.refused(NoBox, box_of, ("row", "a", SIZES, 3, "left", False, (thing,)))
            self.refused(NoBox, box_of, ("column", "a", SIZES, 3, "left", (plain("b"), thing)))

    def test_odd_things(self):
        for thing in odd_things() + [knotted(), (knotted(),), [], "box", ("box",), ("box", "a"), list(plain("a")),
                                     {"box": "a"}, plain("a")[::-1], (plain("a"),), box_of(plain("a")), Plain]:
            self.refused(NoBox, box_of, thing)

    def test_kinds(self):
        for word in ["", "Box", "boxes", "plain", "rows", "col", " box", "left", None, 0, True, (), ["box"], ("box",),
                     {"box": 1}, {"box"}, b"box", Sullen(), knotted(), MANY]:
            self.refused(NoBox, box_of, (word, "a", SIZES, 7))
            self.refused(NoBox, box_of, (word, "a", SIZES, 3, "left", ()))
            self.refused(NoBox, box_of, (word, "a", SIZES, 3, "left", False, ()))

    def test_one_kind_with_the_things_of_another(self):
        for word in ("row", "column"):
            self.refused(NoBox, box_of, (word, "a", SIZES, 7))
        for word in ("box", "row"):
            self.refused(NoBox, box_of, (word, "a", SIZES, 3, "left", ()))
        for word in ("box", "column"):
            self.refused(NoBox, box_of, (word, "a", SIZES, 3, "left", False, ()))

    def test_too_few_and_too_many_things(self):
        for tree in (plain("a"), row("a", plain("b")), column("a", plain("b"))):
            for at in range(len(tree)):
                self.check_within(tree[:at])
                self.check_within(tree[:at] + tree[at + 1:])
                self.check_within(tree[:at] + (tree[at],) + tree[at:])
            for more in (None, (), 0, False, "left", plain("c")):
                self.check_within(tree + (more,))

    def test_lists_where_tuples_are_asked(self):
        for tree in (plain("a"), row("a", plain("b")), column("a", plain("b"))):
            self.check_within(list(tree))
            self.check_within(tree[:2] + (list(tree[2]),) + tree[3:])
        self.check_within(row("a", plain("b"))[:-1] + ([plain("b")],))
        self.check_within(column("a", plain("b"))[:-1] + ([plain("b")],))

    def test_lists_are_as_they_were(self):
        kids = [plain("b")]
        for tree in (list(row("a", plain("b"))), row("a")[:-1] + (kids,), ["box", ["a"], {}, []]):
            before = copy.deepcopy(tree)
            self.refused(NoBox, box_of, tree)
            self.assertEqual(tree, before)

    def test_names_that_are_alike(self):
        for tree in [
            row("a", plain("a")), row("a", plain("b"), plain("b")), column("a", plain("b"), row("b")),
            column("a", row("b", plain("c")), plain("c")), column("a", row("b", plain("c")), row("d", plain("c"))),
            row("a", column("b", row("c", plain("a")))), row("a", plain("b"), column("c", plain("d"), plain("b"))),
        ]:
            self.refused(NoBox, box_of, tree)
        # Names are unlike even where one stands within another.
        box_of(row("a", plain("aa"), plain("aaa"), column("a1", plain("a11"))))

    def test_41_boxes(self):
        rows = [row(name, *plains(name, 12)) for name in ("a", "b", "c")]
        self.refused(NoBox, box_of, row("top", *rows, plain("more")))
        rows = [row("a", *plains("a", 12)), row("b", *plains("b", 12)), row("c", column("d"), *plains("c", 11))]
        self.refused(NoBox, box_of, row("top", *rows, row("e")))
        self.refused(NoBox, box_of, column("top", *[column(name, *plains(name, 12)) for name in "abcdef"]))

    def test_7_within_one_another(self):
        for many in (7, 8, 100, 100000):
            self.refused(NoBox, box_of, within(many))
        self.refused(NoBox, box_of, row("a", plain("b"), within(6)))

    def test_13_kids(self):
        for make in (row, column):
            for many in (13, 14, 39, 40, 10000):
                self.refused(NoBox, box_of, make("top", *plains("k", many)))
            self.check_within(make("top", *plains("k", 13)))

    def test_a_tree_that_would_be_endless_to_go_through(self):
        tree = plain("a")
        for at in range(5):
            tree = row(f"b{at}", *[tree] * 12)
        self.refused(NoBox, box_of, tree)


class ToldTest(Case):

    def setUp(self):
        self.box = box_of(WHOLE)

    def test_plain(self):
        box = box_of(plain("a", NO_MOST, 9))
        self.assertEqual(box.tree(), ("box", "a", NO_MOST, 9))
        self.assertEqual(box.name(), "a")
        self.assertEqual(box.sizes(), NO_MOST)
        self.assertEqual(box.kids(), [])
        self.assertEqual(box.names(), ["a"])
        self.assertIs(box.found("a"), box)
        self.assertIs(box.gap().__class__, int)
        self.assertEqual(box.gap(), 0)
        self.assertEqual(box.lean(), "left")
        self.assertIs(box.breaks(), False)
        self.assertEqual(box.tall(), 9)
        self.assertEqual(box_of(plain("a", tall=0)).tall(), 0)

    def test_row(self):
        box = box_of(row("a", plain("b"), plain("c"), sizes=NO_MOST, gap=4, lean="amid", breaks=True))
        self.assertEqual(box.tree(), ("row", "a", NO_MOST, 4, "amid", True, (plain("b"), plain("c"))))
        self.assertEqual(box.name(), "a")
        self.assertEqual(box.sizes(), NO_MOST)
        self.assertEqual([kid.tree() for kid in box.kids()], [plain("b"), plain("c")])
        self.assertEqual(box.names(), ["a", "b", "c"])
        self.assertEqual(box.gap(), 4)
        self.assertEqual(box.lean(), "amid")
        self.assertIs(box.breaks(), True)
        self.assertIs(box.tall(), None)
        self.assertIs(box_of(row("a")).breaks(), False)

    def test_column(self):
        box = box_of(column("a", plain("b"), row("c"), sizes=NO_MOST, gap=4, lean="right"))
        self.assertEqual(box.tree(), ("column", "a", NO_MOST, 4, "right", (plain("b"), row("c"))))
        self.assertEqual(box.name(), "a")
        self.assertEqual(box.sizes(), NO_MOST)
        self.assertEqual([kid.tree() for kid in box.kids()], [plain("b"), row("c")])
        self.assertEqual(box.names(), ["a", "b", "c"])
        self.assertEqual(box.gap(), 4)
        self.assertEqual(box.lean(), "right")
        self.assertIs(box.breaks(), False)
        self.assertIs(box.tall(), None)

    def test_each_box_of_a_whole_tree(self):
        def look(box, tree):
            self.assertEqual(box.tree(), tree)
            self.assertEqual((box.name(), box.sizes()), (tree[1], tree[2]))
            kids = () if tree[0] == "box" else tree[-1]
            self.assertEqual(len(box.kids()), len(kids))
            for kid, told in zip(box.kids(), kids):
                look(kid, told)
        look(self.box, WHOLE)

    def test_names_a_box_ahead_of_its_kids(self):
        self.assertEqual(self.box.names(), ["page", "head", "logo", "menu", "text", "feet", "side", "inner", "x9"])
        self.assertEqual(self.box.found("side").names(), ["side", "inner", "x9"])

    def test_found(self):
        for name in self.box.names():
            self.assertEqual(self.box.found(name).name(), name)
        self.assertIs(self.box.found("page"), self.box)
        self.assertEqual(self.box.found("x9").tree(), plain("x9"))
        self.assertEqual(self.box.found("head").tree(), WHOLE[5][0])
        self.assertEqual(self.box.found("head").found("menu").tall(), 1000)

    def test_found_refuses(self):
        for name in ["", "a", "pag", "pages", "Page", "PAGE", " page", "box", "row", "x", "\u0661", "x" * 5000]:
            self.refused(NoName, self.box.found, name)
        # Only what is in it is found in it.
        for name in ["page", "text", "side", "x9"]:
            self.refused(NoName, self.box.found("head").found, name)
        for name in ["page", "head", "text"]:
            self.refused(NoName, self.box.found("logo").found, name)
        self.refused(NoName, self.box.found("feet").found, "page")

    def test_the_lists_told_are_the_askers_own(self):
        for name in self.box.names():
            box = self.box.found(name)
            for action in (box.kids, box.names):
                first = action()
                kept = list(first)
                first.append(None)
                first.insert(0, "spoilt")
                self.assertIsNot(action(), first)
                self.assertEqual(len(action()), len(kept))
                self.assertTrue(all([one is other or one == other for one, other in zip(action(), kept)]))
        self.assertEqual(self.box.tree(), WHOLE)
        self.box.kids().clear()
        self.box.kids()[0].kids().clear()
        self.assertEqual(len(self.box.names()), 9)
        self.assertEqual(self.box.tree(), WHOLE)

    def test_two_boxes_of_one_tree_have_nothing_in_common_that_can_be_changed(self):
        other = box_of(WHOLE)
        other.names().clear()
        other.kids().clear()
        self.assertEqual((other.tree(), self.box.tree()), (WHOLE, WHOLE))
        self.assertIsNot(other, self.box)


if __name__ == "__main__":
    unittest.main()
