"""Wishes, which hold for a tree at a width or not, and the widths at which they hold."""

from widthwise.boxes import is_name
from widthwise.errors import NoWish
from widthwise.finding import place_of
from widthwise.laying import beyond_in, laid, lines_in
from widthwise.parts import is_more, is_whole, less, look_at_width, part_of, quotient
from widthwise.spans import common, outside, spans_of, united
from widthwise.widths import inner_of, line_at, line_through, rows_at, swept

NOTHING = (0, 1)


# A wish that is made of no wishes tells an amount, from 0 on just where it holds. From one end to the next of what
# swept tells the amount is a line, and never falls; so where the wish comes to hold there, it holds up to the end.
# One that is made of wishes joins their sets. Each class tells all by methods of its own, as the interface lists them.
class Wish:
    """A wish; only those that stand under it are made."""

    def __init__(self):
        raise NoWish("a wish is one of those that stand under it")

    def told(self):
        """The tuple of the wish's word and what it was made of."""
        return self._told

    def holds(self, box, width):
        """Whether it holds for the box at a width; NoPart, NoName."""
        return _holds(self, box, width)

    def widths(self, box):
        """The set of all widths at which it holds for the box; NoName, TooMany."""
        return _widths(self, box)

    def _make(self, told, names, wishes):
        self._told = told
        self._names = names
        self._wishes = wishes


class Wide(Wish):
    """The box is at least so wide."""

    def __init__(self, name, least):
        _ask(is_name(name) and _is_count(least))
        self._make(("wide", name, least), [name], [])

    def told(self):
        """The tuple ("wide", name, least)."""
        return self._told

    def holds(self, box, width):
        """Whether it holds for the box at a width; NoPart, NoName."""
        return _holds(self, box, width)

    def widths(self, box):
        """The set of all widths at which it holds for the box; NoName, TooMany."""
        return _widths(self, box)

    def _amount(self, _, layout):
        _, name, least = self._told
        return less(place_of(layout, name)[3], part_of(least))


class InLines(Wish):
    """The box of that name has at most so many lines."""

    def __init__(self, name, most):
        _ask(is_name(name) and _is_count(most))
        self._make(("inlines", name, most), [name], [])

    def told(self):
        """The tuple ("inlines", name, most)."""
        return self._told

    def holds(self, box, width):
        """Whether it holds for the box at a width; NoPart, NoName."""
        return _holds(self, box, width)

    def widths(self, box):
        """The set of all widths at which it holds for the box; NoName, TooMany."""
        return _widths(self, box)

    def _amount(self, box, layout):
        _, name, most = self._told
        return part_of(most - len(lines_in(box, layout, name)))


class Within(Wish):
    """The box does not stand out."""

    def __init__(self, name):
        _ask(is_name(name))
        self._make(("within", name), [name], [])

    def told(self):
        """The tuple ("within", name)."""
        return self._told

    def holds(self, box, width):
        """Whether it holds for the box at a width; NoPart, NoName."""
        return _holds(self, box, width)

    def widths(self, box):
        """The set of all widths at which it holds for the box; NoName, TooMany."""
        return _widths(self, box)

    def _amount(self, box, layout):
        # The whole is not among the pairs: there is no box that it could stand out of.
        far = dict(beyond_in(box, layout)).get(self._told[1], NOTHING)
        return less(NOTHING, far)


class Same(Wish):
    """Both boxes have the same y."""

    def __init__(self, one, other):
        _ask(is_name(one) and is_name(other))
        self._make(("same", one, other), [one, other], [])

    def told(self):
        """The tuple ("same", one, other)."""
        return self._told

    def holds(self, box, width):
        """Whether it holds for the box at a width; NoPart, NoName."""
        return _holds(self, box, width)

    def widths(self, box):
        """The set of all widths at which it holds for the box; NoName, TooMany."""
        return _widths(self, box)

    def _amount(self, _, layout):
        _, one, other = self._told
        if place_of(layout, one)[2] == place_of(layout, other)[2]:
            return NOTHING
        return part_of(-1)


class Both(Wish):
    """The one wish and the other hold."""

    def __init__(self, one, other):
        _ask(isinstance(one, Wish) and isinstance(other, Wish))
        self._make(("both", one.told(), other.told()), [], [one, other])

    def told(self):
        """The tuple ("both", what the one tells, what the other tells)."""
        return self._told

    def holds(self, box, width):
        """Whether it holds for the box at a width; NoPart, NoName."""
        return _holds(self, box, width)

    def widths(self, box):
        """The set of all widths at which it holds for the box; NoName, TooMany."""
        return _widths(self, box)

    def _joined(self, sets):
        return common(sets[0], sets[1])


class Either(Wish):
    """The one wish or the other holds, or both."""

    def __init__(self, one, other):
        _ask(isinstance(one, Wish) and isinstance(other, Wish))
        self._make(("either", one.told(), other.told()), [], [one, other])

    def told(self):
        """The tuple ("either", what the one tells, what the other tells)."""
        return self._told

    def holds(self, box, width):
        """Whether it holds for the box at a width; NoPart, NoName."""
        return _holds(self, box, width)

    def widths(self, box):
        """The set of all widths at which it holds for the box; NoName, TooMany."""
        return _widths(self, box)

    def _joined(self, sets):
        return united(sets[0], sets[1])


class Not(Wish):
    """The wish does not hold."""

    def __init__(self, one):
        _ask(isinstance(one, Wish))
        self._make(("not", one.told()), [], [one])

    def told(self):
        """The tuple ("not", what the wish tells)."""
        return self._told

    def holds(self, box, width):
        """Whether it holds for the box at a width; NoPart, NoName."""
        return _holds(self, box, width)

    def widths(self, box):
        """The set of all widths at which it holds for the box; NoName, TooMany."""
        return _widths(self, box)

    def _joined(self, sets):
        return outside(sets[0])


def _ask(good):
    if not good:
        raise NoWish("a wish is made of names, whole numbers from 0 on, or wishes")


def _is_count(thing):
    return is_whole(thing) and thing >= 0


def _holds(wish, box, width):
    look_at_width(width)
    parts = _all_in(wish)
    _look_at_names(parts, box)
    layout = laid(box, width)
    # At the one width a wish has all widths or none, so that a joined one asks no rule of its own here.
    return _settled(parts, lambda one: _all_or_none(one._amount(box, layout))) != []


def _all_or_none(amount):
    if is_more(NOTHING, amount):
        return []
    return outside([])


def _widths(wish, box):
    parts = _all_in(wish)
    _look_at_names(parts, box)
    stretches = swept(box)
    return _settled(parts, lambda one: _where(one, box, stretches))


def _where(wish, box, stretches):
    """The set of all widths at which a wish that is made of no wishes holds."""
    pairs = []
    for low, high, rows in stretches:
        inner = inner_of(low, high)
        amount = wish._amount(box, rows_at(rows, low))
        begin = _begin(line_through(low, amount, inner, wish._amount(box, rows_at(rows, inner))), low)
        if begin is not None:
            pairs.append((begin, high))
    # Where a line would come to 0 beyond the end, the pair has no width.
    return spans_of(pairs)


def _begin(line, low):
    """The first width from low on at which a line that does not fall is from 0 on, or None."""
    if not is_more(NOTHING, line_at(line, low)):
        return low
    begin, pace = line
    if pace == NOTHING:
        return None
    return quotient(less(NOTHING, begin), pace)


# Wishes may be made of wishes many times over, so they are gone through in loops: no depth is too much for Python.

def _all_in(wish):
    """The list of the wish and all it is made of, each behind what it is made of, in told's order."""
    found = []
    waiting = [wish]
    while waiting:
        one = waiting.pop()
        found.append(one)
        waiting.extend(one._wishes)
    found.reverse()
    return found


def _look_at_names(wishes, box):
    for wish in wishes:
        for name in wish._names:
            box.found(name)


def _settled(wishes, set_of):
    """The set of the last of the wishes of _all_in, from the sets of those that are made of no wishes."""
    waiting = []
    for wish in wishes:
        many = len(wish._wishes)
        if many == 0:
            waiting.append(set_of(wish))
        else:
            made = waiting[-many:]
            del waiting[-many:]
            waiting.append(wish._joined(made))
    return waiting[0]
