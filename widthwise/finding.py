"""What is where in a layout, a list of tuples (name, x, y, wide, tall) as laid tells."""

from widthwise.errors import NoName
from widthwise.parts import added, greater, is_more, lesser


def at_point(layout, x, y):
    """The list of the names of the boxes that have the point, in order."""
    return [name for name, left, upper, wide, tall in layout if _covers(left, wide, x) and _covers(upper, tall, y)]


def innermost(layout, x, y):
    """The name of the last box that has the point, or None."""
    names = at_point(layout, x, y)
    if not names:
        return None
    return names[-1]


def crossing(layout, x, y, wide, tall):
    """The list of the names of the boxes that have a point in common with a rectangle, in order."""
    found = []
    for name, left, upper, box_wide, box_tall in layout:
        if _meet(left, box_wide, x, wide) and _meet(upper, box_tall, y, tall):
            found.append(name)
    return found


def place_of(layout, name):
    """The tuple of the box of that name; NoName."""
    for place in layout:
        if place[0] == name:
            return place
    raise NoName("no box of that name is in the layout")


def beside(layout, one, other):
    """Whether two boxes have a y in common; NoName."""
    _, _, upper, _, tall = place_of(layout, one)
    _, _, other_upper, _, other_tall = place_of(layout, other)
    return _meet(upper, tall, other_upper, other_tall)


def _covers(begin, length, at):
    return not is_more(begin, at) and is_more(added(begin, length), at)


def _meet(begin, length, other_begin, other_length):
    """Whether two spans, each from its begin on and so long, have a number in common."""
    end = lesser(added(begin, length), added(other_begin, other_length))
    return is_more(end, greater(begin, other_begin))
