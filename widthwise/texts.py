"""Trees of boxes as texts: a row for each box, two blanks ahead for each box around it."""

from widthwise.boxes import box_of
from widthwise.errors import NoBox, NoText
from widthwise.figures import is_number, number_of


def written(box):
    """The text of a box and all that is in it."""
    return "".join([row + "\n" for row in _rows_of(box, 0)])


def read_box(text):
    """The Box that is written so; NoText of any other text."""
    rows = text.split("\n")
    if rows.pop().strip(" "):
        raise NoText("the last row has no line feed behind it")
    tree = _tree_of([_read_row(row) for row in rows if row.strip(" ")])
    try:
        return box_of(tree)
    except NoBox:
        raise NoText("what is written is no tree") from None


def _rows_of(box, around):
    rows = ["  " * around + " ".join(_words_of(box))]
    for kid in box.kids():
        rows.extend(_rows_of(kid, around + 1))
    return rows


def _words_of(box):
    kind = box.tree()[0]
    words = [kind, box.name()] + [_size_word(size) for size in box.sizes()]
    if kind == "box":
        return words + [str(box.tall())]
    words = words + [str(box.gap()), box.lean()]
    if box.breaks():
        words.append("breaks")
    return words


def _size_word(size):
    # Only a most is ever None.
    if size is None:
        return "-"
    return str(size)


def _read_row(row):
    """How many boxes are around the one of a row, and its words."""
    bare = row.lstrip(" ")
    blanks = len(row) - len(bare)
    if blanks % 2 == 1:
        raise NoText("two blanks are ahead for each box around")
    # Where two blanks meet, or one is behind, a word is empty, and no row has such a word.
    return blanks // 2, bare.split(" ")


def _tree_of(rows):
    """The tree of rows told as (boxes around, words)."""
    _look_at_steps(rows)
    # From the last row up a box's kids come ahead of it, and no depth of a text is too much for Python.
    # They wait for it by how many boxes are around them, the last one first.
    waiting = {}
    for around, words in reversed(rows):
        kids = waiting.pop(around + 1, [])
        kids.reverse()
        waiting.setdefault(around, []).append(_one_tree(words, tuple(kids)))
    return waiting[0][0]


def _look_at_steps(rows):
    """Refuses rows that are no tree's: only the first has no box around, and none is two further in at once."""
    furthest = 0
    for around, _ in rows:
        if around > furthest or (around == 0 and furthest > 0):
            raise NoText("a row stands where no box is around it")
        furthest = around + 1
    if not rows:
        raise NoText("nothing is written")


def _one_tree(words, kids):
    many = len(words)
    if words[0] == "box" and many == 8 and not kids:
        return ("box", words[1], _sizes(words), _number(words[7]))
    if words[0] == "row" and many == 9:
        return ("row", words[1], _sizes(words), _number(words[7]), words[8], False, kids)
    if words[0] == "row" and many == 10 and words[9] == "breaks":
        return ("row", words[1], _sizes(words), _number(words[7]), words[8], True, kids)
    if words[0] == "column" and many == 9:
        return ("column", words[1], _sizes(words), _number(words[7]), words[8], kids)
    raise NoText("a row is of no form")


def _sizes(words):
    _, _, wish, least, most, grow, shrink = words[:7]
    return _number(wish), _number(least), _most(most), _number(grow), _number(shrink)


def _most(word):
    if word == "-":
        return None
    return _number(word)


def _number(word):
    if not is_number(word):
        raise NoText("a number is written in figures, without noughts ahead")
    return number_of(word)
