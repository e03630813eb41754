"""What a tree tells at all widths at once, as pieces over the widths, in each of which all grows evenly."""

from widthwise.errors import TooMany
from widthwise.parts import added, greater, is_more, look_at_width, product, reduced
from widthwise.runs import Run
from widthwise.sharing import look_at_items
from widthwise.sweeping import Sweep

MOST_PIECES = 400
NOTHING = (0, 1)


def line_at(line, width):
    """What a line (p, q) tells at a width: p, and q times the width."""
    return added(line[0], product(line[1], width))


def share_pieces(items):
    """The list of (low, lines), the widths of the items by the room, from room 0 on; NoItem."""
    look_at_items(items)
    run = Run(items)
    found = []
    low = NOTHING
    for at in run.stretches():
        end = run.end(at)
        # What ends at 0 or below is of rooms below 0, which aren't told of.
        if end is None or end[0] > 0:
            _add_piece(found, low, _lines_of(run, at))
        if end is not None:
            low = greater(low, reduced(end[0], end[1]))
    return found


def all_laid(box):
    """The list of pieces (low, rows), what is told of the tree at all widths; TooMany."""
    found = []
    for low, _, rows in swept(box):
        _add_piece(found, low, rows)
    return found


def read_at(pieces, width):
    """A list as laid tells at a width, of pieces as all_laid tells; NoPart."""
    look_at_width(width)
    found = []
    for low, rows in pieces:
        if not is_more(low, width):
            found = rows
    return [(name, line_at(x, width), y, line_at(wide, width), tall) for name, x, y, wide, tall in found]


def swept(box):
    """The list of all stretches (low, high, rows), high None for no end; TooMany.

    In a stretch all lines of the tree's boxes stay the same. Two neighbours may be alike in all rows.
    """
    sweep = Sweep(box)
    high = sweep.end()
    found = [(NOTHING, high, sweep.rows())]
    many = 1
    while high is not None:
        sweep.go_on()
        low = high
        high = sweep.end()
        rows = sweep.rows()
        if rows != found[-1][2]:
            many += 1
        # A tree may have far more pieces than can be waited for, so none is looked for beyond these.
        if many > MOST_PIECES:
            raise TooMany("there are more pieces than are told")
        found.append((low, high, rows))
    return found


def _add_piece(pieces, low, told):
    """Adds what is told from a low on, if it isn't told from the low ahead on."""
    if not pieces or pieces[-1][1] != told:
        pieces.append((low, told))


def _lines_of(run, at):
    lines, _, bottom = run.lines(at)
    return [(reduced(begin, bottom), reduced(pace, bottom)) for begin, pace in lines]
