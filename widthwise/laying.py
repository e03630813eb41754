"""Laying out a tree of boxes at a width."""

from widthwise.boxes import Column
from widthwise.finding import place_of
from widthwise.lines import broken
from widthwise.parts import added, greater, is_more, less, lesser, look_at_width, part_of, product
from widthwise.sharing import shared

NOTHING = (0, 1)
# How much of the spare is ahead of a line.
AHEAD = {"left": (0, 1), "amid": (1, 2), "right": (1, 1)}


class Memory:
    """What boxes were laid out with last, by their names, and how many layings there were."""

    def __init__(self):
        self.last = {}
        self.many = 0


def laid(box, width):
    """The list of tuples (name, x, y, wide, tall), a box ahead of its kids; NoPart."""
    return laid_from(Memory(), box, width)


def laid_from(memory, box, width):
    """What laid tells, where a box as the memory has it is taken over from there; NoPart."""
    look_at_width(width)
    # The memory keeps its own list.
    return list(_rows_of(box, width, memory))


def lines_of(box, width, name):
    """The list of the lines of the box of that name, each the list of its kids' names; NoPart, NoName."""
    wide = place_of(laid(box, width), name)[3]
    return [[kid.name() for kid in line] for line in kid_lines(box.found(name), wide)]


def stands_out(box, width):
    """The list of the names of the boxes that stand out, in order; NoPart."""
    rights = {name: added(x, wide) for name, x, _, wide, _ in laid(box, width)}
    return _standing_out(box, rights)


def kid_lines(box, width):
    """The lines of a box of such a width, each the list of its Boxes."""
    kids = box.kids()
    if isinstance(box, Column):
        return [[kid] for kid in kids]
    if box.breaks():
        wishes = [kid.sizes()[0] for kid in kids]
        return [[kids[at] for at in line] for line in broken(wishes, box.gap(), width)]
    if not kids:
        return []
    return [kids]


def line_room(box, line, width):
    """The room of a line of a Row of such a width."""
    return less(width, part_of(box.gap() * (len(line) - 1)))


def line_widths(box, line, width):
    """The widths of a line's kids in a box of such a width, and the spare."""
    if isinstance(box, Column):
        wide = _width_in_column(line[0].sizes(), width)
        return [wide], greater(less(width, wide), NOTHING)
    told = shared([kid.sizes() for kid in line], line_room(box, line, width))
    return told[1], told[2]


def _width_in_column(sizes, width):
    _, least, most, _, _ = sizes
    if most is not None:
        width = lesser(width, part_of(most))
    return greater(width, part_of(least))


def _rows_of(box, width, memory):
    """The rows of a box as if it were the whole."""
    tree = box.tree()
    last = memory.last.get(box.name())
    if last is not None and last[0] == tree and last[1] == width:
        return last[2]
    rows = _rows_anew(box, width, memory)
    memory.last[box.name()] = (tree, width, rows)
    memory.many += 1
    return rows


def _rows_anew(box, width, memory):
    rows = []
    high = part_of(box.tall() or 0)
    for at, line in enumerate(kid_lines(box, width)):
        if at > 0:
            high = added(high, part_of(box.gap()))
        line_rows, line_high = _line_rows(box, line, width, memory)
        rows.extend(_moved(line_rows, NOTHING, high))
        high = added(high, line_high)
    return [(box.name(), NOTHING, NOTHING, width, high)] + rows


def _line_rows(box, line, width, memory):
    """The rows of a line as if it began at the upper side of the box, and how high it is."""
    widths, spare = line_widths(box, line, width)
    rows = []
    high = NOTHING
    x = product(spare, AHEAD[box.lean()])
    for kid, wide in zip(line, widths):
        kid_rows = _rows_of(kid, wide, memory)
        rows.extend(_moved(kid_rows, x, NOTHING))
        high = greater(high, kid_rows[0][4])
        x = added(added(x, wide), part_of(box.gap()))
    return rows, high


def _moved(rows, right, down):
    return [(name, added(x, right), added(y, down), wide, tall) for name, x, y, wide, tall in rows]


def _standing_out(box, rights):
    found = []
    for kid in box.kids():
        if is_more(rights[kid.name()], rights[box.name()]):
            found.append(kid.name())
        found.extend(_standing_out(kid, rights))
    return found
