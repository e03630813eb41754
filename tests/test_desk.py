import random
import unittest
from fractions import Fraction

from helpers import Case, part
from test_laying import column, plain
from trees import FOUR_HUNDRED, bends, trees_by_chance
from widthwise.boxes import box_of
from widthwise.changes import Sheet
from widthwise.desk import Desk, answers
from widthwise.errors import WideError
from widthwise.finding import innermost, place_of
from widthwise.laying import laid, stands_out
from widthwise.parts import part_text
from widthwise.texts import read_box, written
from widthwise.wishes import InLines, Not, Same, Wide, Within

TEXT = """\
column a 0 0 - 0 0 1 left
  row b 0 0 - 0 0 5 left breaks
    box c 10 10 10 0 0 3
    box d 20 20 20 0 0 5
    box e 30 15 40 1 1 2
  box f 10 8 12 1 1 4
"""
ROWS = TEXT.splitlines()
LONG = "7" * 6000
NO_NAMES = ["A", "0", "abcdefghi", "box", "row", "column", "left", "amid", "right", "breaks", "a-b", "-", "1/2", "_", "~"]
NO_PARTS = ["x", "-", "/", "1/", "/2", "2/4", "4/2", "1/0", "0/1", "1/1", "01", "00", "-0", "+1", "1.5", "1e3", "1_0", "--1",
            "1/-2", "1/02", "\u0661", "0" * 6000, "1/" + "0" * 6000, LONG + "/1", "0" + LONG, LONG + "/" + LONG, "1/2/3"]
NO_NUMBERS = ["x", "-", "-1", "01", "00", "+1", "1.5", "1/2", "1_0", "1e3", "\u0661", "\u00b2", "0" * 6000, "0" + LONG]


def desk(width=None):
    """A desk with a sheet of the text."""
    made = Desk()
    for row in ["begin"] + ROWS + ["end"] + ([] if width is None else [f"width {width}"]):
        made.say(row)
    return made


class DeskCase(Case):

    def session(self, *pairs):
        """A new desk answers each row so."""
        made = Desk()
        for row, answer in pairs:
            self.assertEqual(made.say(row), answer, row)
        rows = [row for row, _ in pairs]
        self.assertEqual(answers("\n".join(rows)), [answer for _, answer in pairs])
        self.assertEqual(answers("".join([row + "\n" for row in rows])), [answer for _, answer in pairs])

    def asked(self, width, *pairs):
        """A desk with a sheet of the text, as wide as told, answers each row so."""
        begun = [("begin", "-")] + [(row, "-") for row in ROWS] + [("end", "ok"), (f"width {width}", "ok")]
        self.session(*begun, *pairs)

    def unmoved(self, made, row, answer):
        """The row is answered so, and changes nothing."""
        before = [made.say(one) for one in ("show a", "show f", "out", "high", "fits lines b 2")]
        self.assertEqual(made.say(row), answer, row)
        self.assertEqual([made.say(one) for one in ("show a", "show f", "out", "high", "fits lines b 2")], before, row)


class RowsTest(DeskCase):

    def test_begin_and_end(self):
        self.session(("begin", "-"), *[(row, "-") for row in ROWS], ("end", "ok"), ("show a", "0 0 0 25"))
        self.session(("begin", "-"), ("box a 1 1 1 0 0 7", "-"), ("end", "ok"), ("show a", "0 0 0 7"), ("high", "7"))

    def test_rows_between_stand_as_they_are(self):
        self.session(("begin", "-"), ("", "-"), ("   ", "-"), ("box a 1 1 1 0 0 7", "-"), ("", "-"), ("end", "ok"), ("high", "7"))
        for row in [" box a 1 1 1 0 0 7", "box  a 1 1 1 0 0 7", "box a 1 1 1 0 0 7 ", "  box a 1 1 1 0 0 7"]:
            self.session(("begin", "-"), (row, "-"), ("end", "refused NoText"))

    def test_what_is_between_is_never_done(self):
        made = desk(50)
        for row in ("begin", "begin", "width 7", "undo", "show a", "nothing", "drop f", "end end", "begin end"):
            self.assertEqual(made.say(row), "-")
        self.assertEqual(made.say("end"), "refused NoText")
        self.assertEqual(made.say("show f"), "0 13 12 4")

    def test_blanks(self):
        made = Desk()
        for row, answer in [("  begin  ", "-")] + [(row, "-") for row in ROWS] + [("   end ", "ok"), (" width    50", "ok")]:
            self.assertEqual(made.say(row), answer)
        for row in ("show f", " show f", "show f ", "   show     f   "):
            self.assertEqual(made.say(row), "0 13 12 4")
        for row in ("point 1 14", "  point  1   14  "):
            self.assertEqual(made.say(row), "f")
        for row in ("fits not wide f 9", " fits   not  wide   f  9 "):
            self.assertEqual(made.say(row), "0..9")
        # Blanks alone part words.
        for row in ("show\tf", "\tshow f", "show\nf", "show\u00a0f"):
            self.unmoved(made, row, "refused NoRow")
        for row in ("show f\t", "show \tf", "show f\n"):
            self.unmoved(made, row, "refused NoName")

    def test_width(self):
        self.asked(0, ("width 70", "ok"), ("show a", "0 0 70 10"), ("width 139/2", "ok"), ("show a", "0 0 139/2 17"),
                   ("width 0", "ok"), ("show a", "0 0 0 25"))

    def test_show(self):
        self.asked(60, ("show a", "0 0 60 17"), ("show b", "0 0 60 12"), ("show c", "0 0 10 3"), ("show d", "15 0 20 5"),
                   ("show e", "0 10 40 2"), ("show f", "0 13 12 4"))
        self.asked("61/3", ("lean a right", "ok"), ("show f", "25/3 21 12 4"))

    def test_point(self):
        self.asked(60, ("point 0 0", "c"), ("point 9 2", "c"), ("point 10 0", "b"), ("point 0 3", "b"), ("point 35/2 9/2", "d"),
                   ("point 0 10", "e"), ("point 0 12", "a"), ("point 12 13", "a"), ("point 59 16", "a"), ("point 60 16", "-"),
                   ("point 0 17", "-"), ("point -1 0", "-"), ("point 0 -1", "-"), ("point -1/2 -7/3", "-"))

    def test_out(self):
        self.asked(20, ("out", "-"))
        self.asked(19, ("out", "d"))
        self.asked(9, ("out", "c d e"))
        self.asked(0, ("out", "c d e f"))

    def test_high(self):
        self.asked(70, ("high", "10"), ("width 69", "ok"), ("high", "17"), ("width 34", "ok"), ("high", "25"))

    def test_fits(self):
        self.asked(
            0, ("fits wide a 7", "7.."), ("fits wide f 0", "0.."), ("fits wide f 13", "never"), ("fits lines b 2", "35.."),
            ("fits lines b 0", "never"), ("fits within c", "10.."), ("fits within a", "0.."), ("fits same c d", "35.."),
            ("fits same c f", "never"), ("fits wide e 31", "31..70 71.."))

    def test_fits_not(self):
        self.asked(
            0, ("fits not wide a 7", "0..7"), ("fits not wide f 0", "never"), ("fits not wide f 13", "0.."),
            ("fits not lines b 2", "0..35"), ("fits not lines b 0", "0.."), ("fits not within c", "0..10"),
            ("fits not same c d", "0..35"), ("fits not wide e 31", "0..31 70..71"))

    def test_fits_at_widths_that_are_not_whole(self):
        self.session(("begin", "-"), ("row a 0 0 - 0 0 0 left", "-"), ("  box b 10 0 - 1 2 1", "-"), ("  box c 10 0 - 2 1 1", "-"),
                     ("end", "ok"), ("fits wide b 11", "23.."), ("fits wide c 11", "43/2.."), ("fits not wide c 11", "0..43/2"))

    def test_undo_and_redo(self):
        self.asked(60, ("drop e", "ok"), ("high", "10"), ("undo", "ok"), ("high", "17"), ("redo", "ok"), ("high", "10"),
                   ("redo", "refused NoChange"), ("undo", "ok"), ("undo", "ok"), ("show a", "0 0 0 25"),
                   ("undo", "refused NoChange"), ("redo", "ok"), ("show a", "0 0 60 17"), ("width 70", "ok"),
                   ("redo", "refused NoChange"))

    def test_changes(self):
        made = desk(60)
        sheet = Sheet(read_box(TEXT), (60, 1))
        changes = [("gap", "b", 0), ("gap", "a", 5), ("tall", "f", 1000), ("lean", "b", "amid"), ("drop", "d"), ("swap", "b", "f"),
                   ("swap", "c", "e"), ("lean", "a", "right"), ("tall", "c", 0), ("gap", "b", 1000)]
        for change in changes:
            self.assertEqual(made.say(" ".join([str(word) for word in change])), "ok")
            sheet.change(change)
            for name, *place in sheet.laid():
                self.assertEqual(made.say(f"show {name}"), " ".join([part_text(one) for one in place]))

    def test_a_new_sheet_has_nothing_to_take_back(self):
        made = desk(60)
        for row, answer in [("begin", "-"), ("box z 1 1 1 0 0 7", "-"), ("end", "ok"), ("undo", "refused NoChange"),
                            ("redo", "refused NoChange"), ("show z", "0 0 0 7"), ("show a", "refused NoName")]:
            self.assertEqual(made.say(row), answer)


class RefusedTest(DeskCase):

    def test_rows_of_no_form(self):
        rows = ["", " ", "x", "Begin", "BEGIN", "begin x", "begin begin", "end", "end x", "width", "width 1 2", "show", "show a b",
                "point", "point 1", "point 1 2 3", "out a", "out -", "high a", "fits", "fits x", "fits not", "fits a", "fits wide",
                "fits wide a", "fits wide a 1 2", "fits lines a", "fits lines a 1 2", "fits within", "fits within a b",
                "fits same a", "fits same a b c", "fits inlines a 1", "fits not not wide a 1", "fits both wide a 1",
                "fits wide a not 1", "fits wide not a 1", "not fits wide a 1", "fits wide 1 a", "undo x", "redo x", "gap",
                "gap b", "gap b 1 2", "gap 1 b", "lean", "lean b", "lean b left left", "tall", "tall f", "tall f 1 2", "drop",
                "drop b c", "swap", "swap c", "swap c d e", "breaks b True", "breaks b", "sizes c 1 1 1 1 1", "put b 0", "box",
                "box z 1 1 1 0 0 7", "widen 5", "-", "ok", "Show a", "show, a", "width=5"]
        made = desk(50)
        for row in rows:
            self.unmoved(made, row, "refused NoRow")
            self.assertEqual(Desk().say(row), "refused NoRow")

    def test_numbers_of_no_form(self):
        made = desk(50)
        for number in NO_NUMBERS:
            for row in ("gap b", "tall f", "gap x", "tall A", "gap c", "fits wide a", "fits lines b", "fits not wide a",
                        "fits wide x", "fits lines A", "fits not lines box"):
                self.unmoved(made, f"{row} {number}", "refused NoRow")

    def test_without_a_sheet(self):
        rows = ["width 5", "width x", "show a", "show A", "point 1 1", "point x x", "out", "high", "fits wide a 1", "fits wide A 1",
                "undo", "redo", "gap b 1", "lean b left", "tall f 1", "drop b", "swap c d", "end"]
        for row in rows:
            made = Desk()
            self.assertEqual(made.say(row), "refused NoRow")
            self.assertEqual(answers(row), ["refused NoRow"])
            # A begin is no sheet yet, and a text that is none makes none.
            self.session(("begin", "-"), ("x", "-"), ("end", "refused NoText"), (row, "refused NoRow"))

    def test_parts_that_cannot_be_read(self):
        made = desk(50)
        for text in NO_PARTS:
            self.unmoved(made, f"width {text}", "refused NoPart")
            self.unmoved(made, f"point {text} 1", "refused NoPart")
            self.unmoved(made, f"point 1 {text}", "refused NoPart")
            self.unmoved(made, f"point {text} {text}", "refused NoPart")
        for text in ("-1", "-1/2", "-" + LONG):
            self.unmoved(made, f"width {text}", "refused NoPart")
            self.unmoved(made, f"point {text} {text}", "-")

    def test_names(self):
        made = desk(50)
        for name in NO_NAMES + ["x", "ab", "aa"]:
            self.unmoved(made, f"show {name}", "refused NoName")
            for row in (f"gap {name} 5", f"lean {name} left", f"tall {name} 5", f"drop {name}", f"swap {name} c",
                        f"swap c {name}"):
                self.unmoved(made, row, "refused NoChange")
        for name in NO_NAMES:
            for wish in (f"wide {name} 5", f"lines {name} 5", f"within {name}", f"same {name} a", f"same a {name}",
                         f"same x {name}"):
                self.unmoved(made, f"fits {wish}", "refused NoWish")
                self.unmoved(made, f"fits not {wish}", "refused NoWish")
        for name in ("x", "ab", "not", "wide", "fits"):
            for wish in (f"wide {name} 5", f"lines {name} 5", f"within {name}", f"same {name} a", f"same a {name}"):
                self.unmoved(made, f"fits {wish}", "refused NoName")
                self.unmoved(made, f"fits not {wish}", "refused NoName")

    def test_changes_that_cannot_be_done(self):
        made = desk(50)
        for row in ("gap c 5", "gap b 1001", f"gap b {LONG}", "tall b 5", "tall f 1001", f"tall f {LONG}", "lean c left",
                    "lean b middle", "lean b Left", "lean b 5", "drop a", "swap a b", "swap c c", "swap c f", "swap b c"):
            self.unmoved(made, row, "refused NoChange")

    def test_a_text_that_is_none_at_end(self):
        texts = [[], ["x"], ROWS[1:], ROWS + ["box g 1 1 1 0 0 1"], ROWS + ["  box a 1 1 1 0 0 1"], ["box a 1 2 3 0 0 1"],
                 ["box a 01 1 1 0 0 1"], [f"box a {LONG} 0 - 0 0 1"], ["box a " + "0" * 6000 + " 0 - 0 0 1"], ["begin"] + ROWS]
        for text in texts:
            made = desk(50)
            self.assertEqual(made.say("begin"), "-")
            for row in text:
                self.assertEqual(made.say(row), "-")
            # The sheet that was there stays, the rows are gone.
            self.assertEqual(made.say("end"), "refused NoText")
            self.assertEqual(made.say("end"), "refused NoRow")
            self.assertEqual(made.say("show a"), "0 0 50 17")
            self.assertEqual(made.say("undo"), "ok")
            self.assertEqual(made.say("begin"), "-")
            self.assertEqual(made.say("box z 1 1 1 0 0 7"), "-")
            self.assertEqual(made.say("end"), "ok")
            self.assertEqual(made.say("show z"), "0 0 0 7")

    def test_too_many(self):
        tree = column("page", read_box(FOUR_HUNDRED).tree(), plain("bent", (0, 0, 1000, 0, 0)))
        made = Desk()
        for row in ["begin"] + written(box_of(tree)).splitlines() + ["end"]:
            made.say(row)
        self.assertEqual(made.say("fits wide page 5"), "refused TooMany")
        self.assertEqual(made.say("fits wide x 5"), "refused NoName")
        self.assertEqual(made.say("show page"), " ".join([part_text(one) for one in laid(box_of(tree), (0, 1))[0][1:]]))

    def test_very_long_figures(self):
        made = desk(50)
        self.assertEqual(made.say(f"fits wide a {LONG}"), f"{LONG}..")
        self.assertEqual(made.say(f"fits not wide a {LONG}"), f"0..{LONG}")
        self.assertEqual(made.say(f"fits lines b {LONG}"), "0..")
        self.assertEqual(made.say(f"fits wide f {LONG}"), "never")
        self.assertEqual(made.say(f"point {LONG} {LONG}"), "-")
        self.assertEqual(made.say(f"point 1/{LONG} 1/{LONG}"), "c")
        self.assertEqual(made.say(f"width {LONG}"), "ok")
        self.assertEqual(made.say("show a"), f"0 0 {LONG} 10")
        self.assertEqual(made.say("undo"), "ok")
        self.assertEqual(made.say("show a"), "0 0 50 17")


class AnswersTest(DeskCase):

    def test_none(self):
        for text in ("", "\n", " ", "   \n\n  \n", "\n\n\n"):
            self.assertEqual(answers(text), [])

    def test_rows_without_words_are_passed_over_but_between_begin_and_end(self):
        text = "\n  \nbegin\n\nbox a 1 1 1 0 0 7\n   \nend\n\n   \nhigh\n\nundo\n\n"
        self.assertEqual(answers(text), ["-", "-", "-", "-", "ok", "7", "refused NoChange"])

    def test_a_begin_without_an_end(self):
        self.assertEqual(answers("begin\n"), ["-"])
        self.assertEqual(answers("begin\n\n"), ["-", "-"])
        self.assertEqual(answers("begin\n  "), ["-", "-"])
        self.assertEqual(answers("begin"), ["-"])
        self.assertEqual(answers("begin\nx\nhigh"), ["-", "-", "-"])

    def test_only_line_feeds_part_rows(self):
        self.assertEqual(answers("begin\rbegin"), ["refused NoRow"])
        self.assertEqual(answers("begin\x0bbegin\x0c"), ["refused NoRow"])

    def test_each_time_a_new_desk(self):
        text = "begin\n" + TEXT + "end\nwidth 50\nhigh\n"
        first = answers(text)
        self.assertEqual(first, ["-"] * 7 + ["ok", "ok", "17"])
        first.clear()
        self.assertEqual(answers(text), ["-"] * 7 + ["ok", "ok", "17"])
        self.assertEqual(answers("high"), ["refused NoRow"])

    def test_two_desks_are_apart(self):
        one, other = desk(50), desk(60)
        one.say("drop e")
        self.assertEqual((one.say("high"), other.say("high")), ("10", "17"))


class SessionsTest(DeskCase):

    def answer(self, action, *told):
        try:
            found = action(*told)
        except WideError as wrong:
            return "refused " + wrong.__class__.__name__
        return "ok" if found is None else found

    def test_what_is_beneath(self):
        chance = random.Random(101)
        for tree in trees_by_chance(101, 60, boxes=12):
            made = Desk()
            for row in ["begin"] + written(box_of(tree)).splitlines():
                self.assertEqual(made.say(row), "-")
            self.assertEqual(made.say("end"), "ok")
            sheet = Sheet(box_of(tree), (0, 1))
            for _ in range(25):
                names = box_of(tree).names() + ["x"]
                one, other = chance.choice(names), chance.choice(names)
                number = chance.choice([0, 1, 5, 20, 1001])
                width = part(chance.choice(bends(tree)) + chance.choice([0, Fraction(1, 3)]))
                lean = chance.choice(["left", "amid", "right", "middle"])
                spans = lambda found: found if isinstance(found, str) else " ".join(
                    [part_text(low) + ".." + ("" if high is None else part_text(high)) for low, high in found]) or "never"
                pairs = [
                    (f"width {part_text(width)}", lambda: self.answer(sheet.widen, width)),
                    (f"gap {one} {number}", lambda: self.answer(sheet.change, ("gap", one, number))),
                    (f"tall {one} {number}", lambda: self.answer(sheet.change, ("tall", one, number))),
                    (f"lean {one} {lean}", lambda: self.answer(sheet.change, ("lean", one, lean))),
                    (f"drop {other}", lambda: self.answer(sheet.change, ("drop", other))),
                    (f"swap {one} {other}", lambda: self.answer(sheet.change, ("swap", one, other))),
                    ("undo", lambda: self.answer(sheet.undo)), ("redo", lambda: self.answer(sheet.redo)),
                    ("out", lambda: " ".join(stands_out(sheet.box(), sheet.width())) or "-"),
                    ("high", lambda: part_text(sheet.laid()[0][4])),
                    (f"point {part_text(width)} {number}",
                     lambda: innermost(laid(sheet.box(), sheet.width()), width, (number, 1)) or "-"),
                    (f"show {one}", lambda: self.answer(
                        lambda: " ".join([part_text(at) for at in place_of(laid(sheet.box(), sheet.width()), one)[1:]]))),
                    (f"fits wide {one} {number}", lambda: spans(self.answer(Wide(one, number).widths, sheet.box()))),
                    (f"fits not lines {one} {number}",
                     lambda: spans(self.answer(Not(InLines(one, number)).widths, sheet.box()))),
                    (f"fits within {one}", lambda: spans(self.answer(Within(one).widths, sheet.box()))),
                    (f"fits same {one} {other}", lambda: spans(self.answer(Same(one, other).widths, sheet.box()))),
                ]
                row, expected = chance.choice(pairs)
                self.assertEqual(made.say(row), expected(), row)
                for name, *place in laid(sheet.box(), sheet.width()):
                    self.assertEqual(made.say(f"show {name}"), " ".join([part_text(at) for at in place]))


if __name__ == "__main__":
    unittest.main()
