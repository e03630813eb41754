import random
import re
import unittest

from helpers import Case
from widthwise.boxes import Box, box_of
from widthwise.errors import NoBox, NoText
from widthwise.texts import read_box, written

ONE = ("box", "a", (10, 5, 20, 1, 2), 7)

PAGE = ("column", "page", (1000, 0, 1000, 20, 0), 1000, "left", (
    ("row", "head", (100, 20, None, 1, 1), 5, "amid", True, (
        ("box", "logo", (40, 40, 40, 0, 0), 30),
        ("column", "side", (0, 0, 0, 0, 0), 0, "right", (
            ("row", "x9", (10, 5, None, 0, 20), 3, "right", False, ()),
            ("box", "abcdefgh", (1, 0, None, 0, 0), 0),
        )),
        ("box", "z", (1, 1, 1, 1, 1), 1000),
    )),
    ("row", "feet", (9, 9, 10, 1, 1), 0, "left", True, ()),
    ("column", "end", (9, 9, 10, 1, 1), 2, "amid", ()),
))

PAGE_TEXT = """\
column page 1000 0 1000 20 0 1000 left
  row head 100 20 - 1 1 5 amid breaks
    box logo 40 40 40 0 0 30
    column side 0 0 0 0 0 0 right
      row x9 10 5 - 0 20 3 right
      box abcdefgh 1 0 - 0 0 0
    box z 1 1 1 1 1 1000
  row feet 9 9 10 1 1 0 left breaks
  column end 9 9 10 1 1 2 amid
"""

WRITTEN = [
    (ONE, "box a 10 5 20 1 2 7\n"),
    (("box", "a0", (0, 0, None, 0, 0), 0), "box a0 0 0 - 0 0 0\n"),
    (("row", "a", (10, 5, 20, 1, 2), 3, "left", False, ()), "row a 10 5 20 1 2 3 left\n"),
    (("row", "a", (10, 5, 20, 1, 2), 3, "right", True, ()), "row a 10 5 20 1 2 3 right breaks\n"),
    (("column", "a", (10, 5, None, 1, 2), 3, "amid", ()), "column a 10 5 - 1 2 3 amid\n"),
    (("row", "a", (10, 5, 20, 1, 2), 3, "left", False, (ONE[:1] + ("b",) + ONE[2:],)),
     "row a 10 5 20 1 2 3 left\n  box b 10 5 20 1 2 7\n"),
    (PAGE, PAGE_TEXT),
]

# Rows that tell no box, alone or within others.
NO_ROWS = [
    "b", "box", "row", "column", "a", "-", "0", "breaks", "box a", "box a 1", "box a 10 5 20 1 2",
    "box a 10 5 20 1 2 7 8", "box a 10 5 20 1 2 7 left", "box a 10 5 20 1 2 7 breaks", "box 10 5 20 1 2 7",
    "a box 10 5 20 1 2 7", "Box a 10 5 20 1 2 7", "boxes a 10 5 20 1 2 7", "plain a 10 5 20 1 2 7",
    "row a 10 5 20 1 2 3", "row a 10 5 20 1 2 left", "row a 10 5 20 1 2 3 4 left", "row a 10 5 20 1 2 left 3",
    "row a 10 5 20 1 2 3 breaks", "row a 10 5 20 1 2 3 middle", "row a 10 5 20 1 2 3 Left", "row a 10 5 20 1 2 3 -",
    "row a 10 5 20 1 2 3 left break", "row a 10 5 20 1 2 3 left Breaks", "row a 10 5 20 1 2 3 left -",
    "row a 10 5 20 1 2 3 left left", "row a 10 5 20 1 2 3 breaks left", "row a 10 5 20 1 2 3 left True",
    "row a 10 5 20 1 2 3 left breaks breaks", "row a 10 5 20 1 2 3 left breaks 7", "row a breaks 10 5 20 1 2 3 left",
    "column a 10 5 20 1 2 3 left breaks", "column a 10 5 20 1 2 3", "column a 10 5 20 1 2 3 left 7",
    "column a 10 5 20 1 2 3 breaks", "column a 10 5 20 1 2 3 left -",
    # one blank between words, and none behind
    "box  a 10 5 20 1 2 7", "box a  10 5 20 1 2 7", "box a 10 5 20 1 2  7", "box a 10 5 20 1 2 7 ",
    "box a 10 5 20 1 2 7  ", "row a 10 5 20 1 2 3 left ", "row a 10 5 20 1 2 3 left  breaks",
    "row a 10 5 20 1 2 3 left breaks ", "column a 10 5 20 1 2 3 left ", "boxa 10 5 20 1 2 7", "box a10 5 20 1 2 7",
    "box\ta 10 5 20 1 2 7", "box a 10 5 20 1 2\t7", "box a 10 5 20 1 2 7\t", "\tbox a 10 5 20 1 2 7",
    "box a 10 5 20 1 2 7\r", "box a 10 5 20 1 2 7\x00", "box\u00a0a 10 5 20 1 2 7", "\ufeffbox a 10 5 20 1 2 7",
    "box a, 10 5 20 1 2 7", "box a 10 5 20 1 2 7.", "box a 10,5 20 1 2 7", "\"box\" a 10 5 20 1 2 7",
    "box a 10 5 20 1 2 7 %", "% box a 10 5 20 1 2 7", "# box", "\t", " \t", "\r", "\x0b", "\u00a0", "\u2003", ".",
    # numbers as they are not written
    "box a 010 5 20 1 2 7", "box a 10 05 20 1 2 7", "box a 10 5 020 1 2 7", "box a 10 5 20 01 2 7",
    "box a 10 5 20 1 02 7", "box a 10 5 20 1 2 07", "box a 10 5 20 1 2 00", "box a 10 00 20 1 2 7",
    "row a 10 5 20 1 2 03 left", "column a 10 5 20 1 2 00 left",
    "box a +10 5 20 1 2 7", "box a 10 -0 20 1 2 7", "box a 10 5 20 1 2 -7", "box a -10 5 20 1 2 7",
    "box a 10 5 20 1 2 7/1", "box a 10/2 5 20 1 2 7", "box a 10.0 5 20 1 2 7", "box a 1e1 5 20 1 2 7",
    "box a 1_0 5 20 1 2 7", "box a 0x1 0 20 1 2 7", "box a x 5 20 1 2 7", "box a 10 5 20 1 2 x",
    "box a \u0661 0 20 1 2 7", "box a 10 5 20 1 2 \u0667", "box a 10 5 20 1 2 \u00b2", "box a 10 5 20 \uff11 2 7",
    # a dash stands for most alone
    "box a - 5 20 1 2 7", "box a 10 - 20 1 2 7", "box a 10 5 20 - 2 7", "box a 10 5 20 1 - 7", "box a 10 5 20 1 2 -",
    "box - 10 5 20 1 2 7", "row a 10 5 20 1 2 - left", "box a 10 5 -- 1 2 7", "box a 10 5 None 1 2 7",
    "box a 10 5 -1 1 2 7", "box a 10 5 * 1 2 7",
    # names that are none
    "box A 10 5 20 1 2 7", "box 1a 10 5 20 1 2 7", "box a_b 10 5 20 1 2 7", "box abcdefghi 10 5 20 1 2 7",
    "box box 10 5 20 1 2 7", "box row 10 5 20 1 2 7", "box column 10 5 20 1 2 7", "box left 10 5 20 1 2 7",
    "box amid 10 5 20 1 2 7", "box right 10 5 20 1 2 7", "box breaks 10 5 20 1 2 7", "row row 10 5 20 1 2 3 left",
    "box \u0430 10 5 20 1 2 7",
    # bounds
    "box a 1001 5 - 1 2 7", "box a 10 5 1001 1 2 7", "box a 10 5 20 21 2 7", "box a 10 5 20 1 21 7",
    "box a 10 5 20 1 2 1001", "row a 10 5 20 1 2 1001 left", "column a 10 5 20 1 2 1001 left",
    "box a 4 5 20 1 2 7", "box a 10 5 9 1 2 7", "box a 2000 1500 - 1 2 7", "box a 10 5 99999999 1 2 7",
    "row a 10 11 20 1 2 3 left", "column a 10 5 6 1 2 3 left",
]


def row_of(around, name):
    return f"{'  ' * around}row {name} 1 0 - 1 1 0 left\n"


def in_words(text):
    """What another reader makes of a text: whether it is written as rows, and their words."""
    if re.search(r"[^ ]", text.rpartition("\n")[2]):
        return None
    rows = []
    for line in re.findall(r"([^\n]*)\n", text):
        if re.fullmatch(" *", line):
            continue
        number = r"(?:0|[1-9][0-9]*)"
        sizes = rf"(\w+) ({number}) ({number}) ({number}|-) ({number}) ({number}) ({number})"
        found = re.fullmatch(
            rf"((?:  )*)(?:(box) {sizes}|(row) {sizes} (left|amid|right)( breaks)?|(column) {sizes} (left|amid|right))",
            line, re.ASCII)
        if not found:
            return None
        rows.append([one for one in found.groups() if one is not None])
    return rows


def number_or_none(word):
    return None if word == "-" else int(word)


def tree_by_hand(rows):
    """The tree that such rows tell, read from the first one down; the rows that are behind it are left."""
    blanks, kind, name, *rest = rows.pop(0)
    sizes = tuple([number_or_none(word) for word in rest[:5]])
    kids = []
    while rows and rows[0][0] == blanks + "  ":
        kids.append(tree_by_hand(rows))
    if kind == "box":
        return (kind, name, sizes, int(rest[5])) + ((tuple(kids),) if kids else ())
    if kind == "row":
        return (kind, name, sizes, int(rest[5]), rest[6], len(rest) == 8, tuple(kids))
    return (kind, name, sizes, int(rest[5]), rest[6], tuple(kids))


def expected(text):
    """The tree of a text, or None where it is to be refused."""
    rows = in_words(text)
    if not rows or rows[0][0]:
        return None
    tree = tree_by_hand(rows)
    try:
        box_of(tree)
    except NoBox:
        return None
    return None if rows else tree


class WrittenTest(Case):

    def test_written(self):
        for tree, text in WRITTEN:
            found = written(box_of(tree))
            self.assertIs(found.__class__, str)
            self.assertEqual(found, text)

    def test_a_box_within_a_tree_is_written_as_a_whole(self):
        box = box_of(PAGE)
        self.assertEqual(written(box.found("side")),
                         "column side 0 0 0 0 0 0 right\n  row x9 10 5 - 0 20 3 right\n  box abcdefgh 1 0 - 0 0 0\n")
        self.assertEqual(written(box.found("z")), "box z 1 1 1 1 1 1000\n")

    def test_what_is_written_stays_as_it_was(self):
        box = box_of(PAGE)
        self.assertEqual(written(box), written(box))
        self.assertEqual(box.tree(), PAGE)


class ReadTest(Case):

    def check(self, text, tree):
        box = read_box(text)
        self.assertIsInstance(box, Box)
        self.assertEqual(box.tree(), tree)

    def test_read(self):
        for tree, text in WRITTEN:
            self.check(text, tree)
            self.assertEqual(written(read_box(text)), text)
            self.assertEqual(read_box(written(box_of(tree))).tree(), tree)

    def test_rows_of_blanks_and_without_signs_are_passed_over(self):
        for tree, text in WRITTEN:
            rows = text.split("\n")[:-1]
            for blank in ["", " ", "  ", "   ", "      ", " " * 5000]:
                self.check("\n".join([f"{blank}\n{row}" for row in rows]) + "\n", tree)
                self.check("\n".join([f"{row}\n{blank}" for row in rows]) + "\n", tree)
                self.check(text + blank + "\n" + blank + "\n", tree)
                self.check(blank + "\n\n" + text, tree)

    def test_blanks_behind_the_last_line_feed(self):
        for tree, text in WRITTEN:
            for many in (1, 2, 3, 500):
                self.check(text + " " * many, tree)
                self.check(text + "\n  \n" + " " * many, tree)

    def test_the_last_row_has_a_line_feed_behind_it(self):
        for _, text in WRITTEN:
            self.refused(NoText, read_box, text[:-1])
            self.refused(NoText, read_box, text[:-1] + " ")
            self.refused(NoText, read_box, text + text[:-1])
            self.refused(NoText, read_box, text + ".")
            self.refused(NoText, read_box, text + "  \t")

    def test_texts_of_no_tree(self):
        for text in ["", " ", "   ", "\n", "\n\n", "  \n", " \n \n ", "\n" * 5000, " " * 5000, "%", "\t", "\r\n", "\x00"]:
            self.refused(NoText, read_box, text)

    def test_texts_of_more_than_one_tree(self):
        for _, text in WRITTEN:
            other = "box q 1 1 1 1 1 1\n"
            self.refused(NoText, read_box, text + other)
            self.refused(NoText, read_box, other + text)
            self.refused(NoText, read_box, other + "\n" + text)
            self.refused(NoText, read_box, text + text)
        self.refused(NoText, read_box, row_of(0, "a") + row_of(1, "b") + row_of(0, "c") + row_of(1, "d"))

    def test_rows_that_are_none(self):
        for row in NO_ROWS:
            with self.subTest(row=row):
                self.refused(NoText, read_box, row + "\n")
                self.refused(NoText, read_box, row_of(0, "q") + "  " + row + "\n")
                self.refused(NoText, read_box, row_of(0, "q") + row_of(1, "r") + "  " + row + "\n" + row_of(1, "s"))

    def test_line_feeds_alone_part_rows(self):
        for sign in ["\r", "\r\n", "\x0b", "\x0c", "\x1c", "\x85", "\u2028", "\\n", ";", ""]:
            self.refused(NoText, read_box, PAGE_TEXT.replace("\n", sign))
            self.refused(NoText, read_box, PAGE_TEXT.replace("\n", sign, 1))

    def test_blanks_ahead(self):
        for blanks in range(1, 20):
            self.refused(NoText, read_box, " " * blanks + row_of(0, "a"))
            if blanks != 2:
                self.refused(NoText, read_box, row_of(0, "a") + " " * blanks + row_of(0, "b"))
            if blanks not in (2, 4):
                self.refused(NoText, read_box, row_of(0, "a") + row_of(1, "b") + " " * blanks + row_of(0, "c"))
        self.refused(NoText, read_box, row_of(0, "a") + "\t" + row_of(0, "b"))
        self.refused(NoText, read_box, row_of(0, "a") + " \t" + row_of(0, "b"))

    def test_a_plain_has_no_kids(self):
        self.refused(NoText, read_box, "box a 10 5 20 1 2 7\n  box b 10 5 20 1 2 7\n")
        self.refused(NoText, read_box, row_of(0, "q") + "  box a 10 5 20 1 2 7\n" + row_of(2, "r"))
        self.refused(NoText, read_box, row_of(0, "q") + "  box a 10 5 20 1 2 7\n\n" + row_of(2, "r"))

    def test_names_that_are_alike(self):
        self.refused(NoText, read_box, row_of(0, "a") + row_of(1, "a"))
        self.refused(NoText, read_box, row_of(0, "a") + row_of(1, "b") + row_of(1, "b"))
        self.refused(NoText, read_box, row_of(0, "a") + row_of(1, "b") + row_of(2, "c") + row_of(1, "c"))

    def test_bounds_of_a_tree(self):
        kids = "".join([row_of(1, f"k{at}") for at in range(12)])
        self.assertEqual(len(read_box(row_of(0, "a") + kids).kids()), 12)
        self.refused(NoText, read_box, row_of(0, "a") + kids + row_of(1, "more"))
        nest = "".join([row_of(at, f"n{at}") for at in range(6)])
        self.assertEqual(len(read_box(nest).names()), 6)
        self.refused(NoText, read_box, nest + row_of(6, "more"))
        many = "".join([row_of(1, stem) + "".join([row_of(2, f"{stem}{at}") for at in range(12)]) for stem in "abc"])
        self.assertEqual(len(read_box(row_of(0, "top") + many).names()), 40)
        self.refused(NoText, read_box, row_of(0, "top") + many + row_of(1, "more"))

    def test_long_texts(self):
        for many in (61, 4300, 5000, 20000):
            for wish in ["1" * many, "0" * many, "-" * many, "x" * many, "1" + "0" * many]:
                self.refused(NoText, read_box, f"box a {wish} 5 20 1 2 7\n")
                self.refused(NoText, read_box, f"box a 10 5 {wish} 1 2 7\n")
                self.refused(NoText, read_box, f"box a 10 5 20 1 2 {wish}\n")
                self.refused(NoText, read_box, f"box {wish} 10 5 20 1 2 7\n")
                self.refused(NoText, read_box, wish + "\n")
                self.refused(NoText, read_box, f"row a 10 5 20 1 2 3 {wish}\n")
                self.refused(NoText, read_box, f"row a 10 5 20 1 2 3 left {wish}\n")
        self.refused(NoText, read_box, "".join([row_of(at, f"n{at}") for at in range(2000)]))
        self.refused(NoText, read_box, row_of(0, "a") + "".join([row_of(1, f"k{at}") for at in range(5000)]))
        self.refused(NoText, read_box, row_of(0, "a") * 5000)

    def test_each_text_that_differs_by_a_sign(self):
        signs = " \n-0159abx%\t"
        let_by = 0
        for _, text in WRITTEN:
            texts = set()
            for at in range(len(text) + 1):
                texts.add(text[:at] + text[at + 1:])
                texts.add(text[:at] + text[at:at + 2][::-1] + text[at + 2:])
                for sign in signs:
                    texts.add(text[:at] + sign + text[at:])
                    texts.add(text[:at] + sign + text[at + 1:])
            let_by += self.compare(texts)
        self.assertGreater(let_by, 500)

    def test_rows_left_out_doubled_and_moved(self):
        rows = PAGE_TEXT.split("\n")[:-1]
        moved = [row.replace("row", "column", 1) for row in rows] + rows + [row + " breaks" for row in rows]
        texts = set()
        for at in range(len(rows) + 1):
            texts.add("\n".join(rows[:at] + rows[at + 1:]) + "\n")
            for row in moved:
                for blanks in ("", "  ", "    ", "      ", "        "):
                    line = blanks + row.lstrip(" ")
                    texts.add("\n".join(rows[:at] + [line] + rows[at:]) + "\n")
                    texts.add("\n".join(rows[:at] + [line] + rows[at + 1:]) + "\n")
                    texts.add("\n".join(rows[:at] + [line.replace("a", "q").replace("e", "v")] + rows[at:]) + "\n")
        self.assertGreater(self.compare(texts), 20)

    def test_rows_by_chance(self):
        chance = random.Random(22)
        texts = set()
        for _ in range(3000):
            around = 0
            text = ""
            for at in range(chance.randrange(1, 9)):
                kind = chance.choice(["box", "row", "row", "column", "column"])
                tail = {"box": "", "row": chance.choice([" left", " amid breaks"]), "column": " right"}[kind]
                text += f"{'  ' * around}{kind} n{at} {chance.choice(['9 1 -', '4 0 10'])} 1 2 {at}{tail}\n"
                around = chance.choice([max(around - 1, 1), max(around, 1), around + 1, around + 1])
            texts.add(text)
        self.assertGreater(self.compare(texts), 300)

    def compare(self, texts):
        """Each text is read as the other reader reads it, or refused where that one finds no tree."""
        let_by = 0
        for text in sorted(texts):
            tree = expected(text)
            if tree is None:
                self.refused(NoText, read_box, text)
            else:
                let_by += 1
                box = read_box(text)
                self.assertEqual(box.tree(), tree, text)
                bare = "".join([row + "\n" for row in text.split("\n") if row.strip(" ")])
                self.assertEqual(written(box), bare)
        return let_by


if __name__ == "__main__":
    unittest.main()
