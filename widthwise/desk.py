"""The desk, which is told rows and answers each with a text."""

from widthwise.changes import Sheet
from widthwise.errors import NoRow, WideError
from widthwise.figures import is_number, number_of
from widthwise.finding import innermost, place_of
from widthwise.laying import stands_out
from widthwise.parts import part_of, part_text, read_part
from widthwise.texts import read_box
from widthwise.wishes import InLines, Not, Same, Wide, Within


class Desk:
    """A desk, at first without a sheet."""

    def __init__(self):
        self._sheet = None
        self._rows = None

    def say(self, row):
        """The answer to a row."""
        try:
            return self._answer(row)
        except WideError as wrong:
            return f"refused {wrong.kind}"

    def gathers(self):
        """Whether it stands between begin and end, where rows are a tree's text."""
        return self._rows is not None

    def _answer(self, row):
        words = _words_of(row)
        if self.gathers():
            return self._gathered(row, words)
        if words == ["begin"]:
            self._rows = []
            return "-"
        if self._sheet is None:
            raise NoRow("there is no sheet")
        return _answer_of(self._sheet, words)

    def _gathered(self, row, words):
        if words != ["end"]:
            self._rows.append(row)
            return "-"
        text = "".join([one + "\n" for one in self._rows])
        self._rows = None
        self._sheet = Sheet(read_box(text), part_of(0))
        return "ok"


def answers(text):
    """The list of the answers of a new desk to the rows of a text."""
    desk = Desk()
    rows = text.split("\n")
    # Behind the last line feed no row begins, if nothing stands there.
    if rows[-1] == "":
        rows.pop()
    return [desk.say(row) for row in rows if desk.gathers() or _words_of(row)]


def _words_of(row):
    return [word for word in row.split(" ") if word]


def _answer_of(sheet, words):
    # The forms of rows: the first word and how many are behind it.
    if not words or (words[0] != "fits" and MANY.get(words[0]) != len(words) - 1):
        raise NoRow("a row of no form")
    action = ANSWERS[words[0]]
    return action(sheet, words)


def _number(word):
    if not is_number(word):
        raise NoRow("a number has figures, without noughts ahead")
    return number_of(word)


def _answer_width(sheet, words):
    sheet.widen(read_part(words[1]))
    return "ok"


def _answer_show(sheet, words):
    place = place_of(sheet.laid(), words[1])
    return " ".join([part_text(number) for number in place[1:]])


def _answer_point(sheet, words):
    x = read_part(words[1])
    y = read_part(words[2])
    return innermost(sheet.laid(), x, y) or "-"


def _answer_out(sheet, _):
    return " ".join(stands_out(sheet.box(), sheet.width())) or "-"


def _answer_high(sheet, _):
    return part_text(sheet.laid()[0][4])


def _answer_fits(sheet, words):
    spans = _wish_of(words[1:]).widths(sheet.box())
    return " ".join([_span_text(low, high) for low, high in spans]) or "never"


def _answer_undo(sheet, _):
    sheet.undo()
    return "ok"


def _answer_redo(sheet, _):
    sheet.redo()
    return "ok"


def _answer_number(sheet, words):
    sheet.change((words[0], words[1], _number(words[2])))
    return "ok"


def _answer_words(sheet, words):
    sheet.change(tuple(words))
    return "ok"


def _wish_of(words):
    if words[:1] == ["not"]:
        return Not(_single_wish(words[1:]))
    return _single_wish(words)


def _single_wish(words):
    form = (words[0], len(words)) if words else ()
    if form == ("wide", 3):
        return Wide(words[1], _number(words[2]))
    if form == ("lines", 3):
        return InLines(words[1], _number(words[2]))
    if form == ("within", 2):
        return Within(words[1])
    if form == ("same", 3):
        return Same(words[1], words[2])
    raise NoRow("a wish of no form")


def _span_text(low, high):
    if high is None:
        return f"{part_text(low)}.."
    return f"{part_text(low)}..{part_text(high)}"


# How many words are behind the first one; those behind fits are looked at with the wish.
MANY = {
    "width": 1, "show": 1, "point": 2, "out": 0, "high": 0, "undo": 0, "redo": 0, "gap": 2, "lean": 2, "tall": 2,
    "drop": 1, "swap": 2,
}
ANSWERS = {
    "width": _answer_width, "show": _answer_show, "point": _answer_point, "out": _answer_out, "high": _answer_high,
    "fits": _answer_fits, "undo": _answer_undo, "redo": _answer_redo, "gap": _answer_number, "lean": _answer_words,
    "tall": _answer_number, "drop": _answer_words, "swap": _answer_words,
}
