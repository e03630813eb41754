"""What a tree tells at all widths at once, as pieces over the widths.

In a piece all grows evenly, so what is told in it are the lines through what is told at two of its widths.
"""

from widthwise.boxes import Column
from widthwise.errors import TooMany
from widthwise.laying import kid_lines, laid, line_room, line_widths
from widthwise.lines import next_width
from widthwise.parts import added, is_more, less, look_at_width, part_of, product, quotient
from widthwise.sharing import shared, width_at

MOST_PIECES = 400
NOTHING = (0, 1)


def line_at(line, width):
    """What a line (p, q) tells at a width: p, and q times the width."""
    return added(line[0], product(line[1], width))


def share_pieces(items):
    """The list of (low, lines), the widths of the items by the room, from room 0 on; NoItem."""
    found = []
    low = NOTHING
    while low is not None:
        high = _next_room(items, low)
        inner = inner_of(low, high)
        lines = []
        for one, other in zip(shared(items, low)[1], shared(items, inner)[1]):
            lines.append(line_through(low, one, inner, other))
        found.append((low, high, lines))
        low = high
    return _pieces(found)


def all_laid(box):
    """The list of pieces (low, rows), what is told of the tree at all widths; TooMany."""
    return _pieces(swept(box))


def read_at(pieces, width):
    """A list as laid tells at a width, of pieces as all_laid tells; NoPart."""
    look_at_width(width)
    found = []
    for low, rows in pieces:
        if not is_more(low, width):
            found = rows
    return rows_at(found, width)


def rows_at(rows, width):
    """A list as laid tells at a width, of the rows of its piece."""
    return [(name, line_at(x, width), y, line_at(wide, width), tall) for name, x, y, wide, tall in rows]


def swept(box):
    """The list of all stretches (low, high, rows), high None for no end; TooMany.

    In a stretch all lines of the tree's boxes stay the same. Two neighbours may be alike in all rows.
    """
    found = []
    many = 0
    low = NOTHING
    while low is not None:
        high = _next_end(box, low)
        rows = _rows_between(box, low, high)
        if not found or found[-1][2] != rows:
            many += 1
        # A tree may have far more pieces than can be waited for, so none is looked for beyond these.
        if many > MOST_PIECES:
            raise TooMany("there are more pieces than are told")
        found.append((low, high, rows))
        low = high
    return found


def inner_of(low, high):
    """A number between two others, high None for no end."""
    if high is None:
        return added(low, part_of(1))
    return product(added(low, high), part_of(1, 2))


def line_through(one, worth, other, other_worth):
    """The line that tells these two worths at these two widths."""
    pace = quotient(less(other_worth, worth), less(other, one))
    return less(worth, product(pace, one)), pace


def _pieces(stretches):
    """Pieces (low, told) of stretches (low, high, told), neighbours that are alike made one."""
    found = []
    for low, _, told in stretches:
        if not found or found[-1][1] != told:
            found.append((low, told))
    return found


def _rows_between(box, low, high):
    """The rows of the widths from low on, below high, between which nothing goes on otherwise."""
    inner = inner_of(low, high)
    rows = []
    for one, other in zip(laid(box, low), laid(box, inner)):
        name, x, y, wide, tall = one
        rows.append((name, line_through(low, x, inner, other[1]), y, line_through(low, wide, inner, other[3]), tall))
    return rows


def _next_end(box, width):
    """The least width of the box above this one from which on it, or a box in it, goes on otherwise, or None."""
    own = _earliest(_own_ends(box, width))
    inner = inner_of(width, own)
    ends = [own]
    # Up to the own end all kids' widths are lines, so an end of a kid is reached where its line comes to it.
    for one, other in zip(_kids_with_widths(box, width), _kids_with_widths(box, inner)):
        begin, pace = line_through(width, one[1], inner, other[1])
        end = _next_end(one[0], one[1]) if pace != NOTHING else None
        if end is not None:
            ends.append(quotient(less(end, begin), pace))
    return _earliest(ends)


def _own_ends(box, width):
    """A list with each next width above this one from which on a box's lines, or what is in them, go on otherwise.

    Some are None, where there is no such width.
    """
    if isinstance(box, Column):
        sizes = [size for kid in box.kids() for size in kid.sizes()[1:3] if size is not None]
        return [part_of(size) for size in sizes if is_more(part_of(size), width)]
    ends = []
    if box.breaks():
        ends.append(next_width([kid.sizes()[0] for kid in box.kids()], box.gap(), width))
    for line in kid_lines(box, width):
        room = line_room(box, line, width)
        end = _next_room([kid.sizes() for kid in line], room)
        if end is not None:
            ends.append(added(width, less(end, room)))
    return ends


def _next_room(items, room):
    """The least room above this one from which on the widths or the spare go on otherwise, or None."""
    share, _, _, over = shared(items, room)
    if over != NOTHING:
        return added(room, over)
    bend = _earliest([one for one in _bends(items) if is_more(one, share)])
    if bend is None:
        return None
    taken = NOTHING
    for item in items:
        taken = added(taken, width_at(item, bend))
    return taken


def _bends(items):
    """The shares at which an item comes to its least, its wish or its most."""
    found = [NOTHING]
    for wish, least, most, grow, shrink in items:
        if grow > 0 and most is not None:
            found.append(part_of(most - wish, grow))
        if shrink > 0:
            found.append(part_of(least - wish, shrink))
    return found


def _kids_with_widths(box, width):
    found = []
    for line in kid_lines(box, width):
        widths = line_widths(box, line, width)[0]
        found.extend(list(zip(line, widths)))
    return found


def _earliest(ends):
    """The least of the ends that are no None, or None."""
    found = None
    for end in ends:
        if found is None or (end is not None and is_more(found, end)):
            found = end
    return found
