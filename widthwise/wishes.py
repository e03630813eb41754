"""Wishes, which hold for a tree at a width or not, and the widths at which they hold."""

from widthwise.boxes import is_name
from widthwise.errors import NoWish
from widthwise.finding import place_of
from widthwise.laying import kid_lines, laid
from widthwise.parts import added, is_more, is_whole, less, look_at_width, part_of, quotient
from widthwise.spans import common, has, outside, spans_of, united
from widthwise.widths import line_at, swept

NOTHING = (0, 1)


# A wish that is made of no wishes tells an amount, from 0 on just where it holds: a line for each of the stretches of
# widths that swept tells. There it never falls; so where the wish comes to hold, it holds up to the stretch's end.
# One that is made of wishes joins their sets. Each class tells all by methods of its own, as the interface lists them.
class Wish:
    """A wish; only those that stand under it are made."""

    def __init__(self):
        raise NoWish("a wish is one of those that stand under it")

    def told(self):
        """The tuple of the wish's word and what it was made of."""
        return self._told

    def holds(self, box, width):
        """Whether it holds for the box at a width; NoPart, NoName."""
        return _holds(self, box, width)

    def widths(self, box):
        """The set of all widths at which it holds for the box; NoName, TooMany."""
        return _widths(self, box)

    def _make(self, told, names, wishes):
        self._told = told
        self._names = names
        self._wishes = wishes


class Wide(Wish):
    """The box is at least so wide."""

    def __init__(self, name, least):
        _ask(is_name(name) and _is_count(least))
        self._make(("wide", name, least), [name], [])

    def told(self):
        """The tuple ("wide", name, least)."""
        return self._told

    def holds(self, box, width):
        """Whether it holds for the box at a width; NoPart, NoName."""
        return _holds(self, box, width)

    def widths(self, box):
        """The set of all widths at which it holds for the box; NoName, TooMany."""
        return _widths(self, box)

    def _amounts(self, _, stretches):
        _, name, least = self._told
        return [_line_less(place_of(rows, name)[3], _level(part_of(least))) for _, _, rows in stretches]


class InLines(Wish):
    """The box of that name has at most so many lines."""

    def __init__(self, name, most):
        _ask(is_name(name) and _is_count(most))
        self._make(("inlines", name, most), [name], [])

    def told(self):
        """The tuple ("inlines", name, most)."""
        return self._told

    def holds(self, box, width):
        """Whether it holds for the box at a width; NoPart, NoName."""
        return _holds(self, box, width)

    def widths(self, box):
        """The set of all widths at which it holds for the box; NoName, TooMany."""
        return _widths(self, box)

    def _amounts(self, box, stretches):
        _, name, most = self._told
        named = box.found(name)
        # No line takes other boxes within a stretch, so it has them all where it begins.
        widths = [line_at(place_of(rows, name)[3], low) for low, _, rows in stretches]
        return [_level(part_of(most - len(kid_lines(named, width)))) for width in widths]


class Within(Wish):
    """The box does not stand out."""

    def __init__(self, name):
        _ask(is_name(name))
        self._make(("within", name), [name], [])

    def told(self):
        """The tuple ("within", name)."""
        return self._told

    def holds(self, box, width):
        """Whether it holds for the box at a width; NoPart, NoName."""
        return _holds(self, box, width)

    def widths(self, box):
        """The set of all widths at which it holds for the box; NoName, TooMany."""
        return _widths(self, box)

    def _amounts(self, box, stretches):
        name = self._told[1]
        # There is no box that the whole could stand out of, so it is held against itself.
        around = _around(box, name) or name
        return [_line_less(_right(rows, around), _right(rows, name)) for _, _, rows in stretches]


class Same(Wish):
    """Both boxes have the same y."""

    def __init__(self, one, other):
        _ask(is_name(one) and is_name(other))
        self._make(("same", one, other), [one, other], [])

    def told(self):
        """The tuple ("same", one, other)."""
        return self._told

    def holds(self, box, width):
        """Whether it holds for the box at a width; NoPart, NoName."""
        return _holds(self, box, width)

    def widths(self, box):
        """The set of all widths at which it holds for the box; NoName, TooMany."""
        return _widths(self, box)

    def _amounts(self, _, stretches):
        _, one, other = self._told
        alike = [place_of(rows, one)[2] == place_of(rows, other)[2] for _, _, rows in stretches]
        return [_level(NOTHING if same else part_of(-1)) for same in alike]


class Both(Wish):
    """The one wish and the other hold."""

    def __init__(self, one, other):
        _ask(isinstance(one, Wish) and isinstance(other, Wish))
        self._make(("both", one.told(), other.told()), [], [one, other])

    def told(self):
        """The tuple ("both", what the one tells, what the other tells)."""
        return self._told

    def holds(self, box, width):
        """Whether it holds for the box at a width; NoPart, NoName."""
        return _holds(self, box, width)

    def widths(self, box):
        """The set of all widths at which it holds for the box; NoName, TooMany."""
        return _widths(self, box)

    def _joined(self, sets):
        return common(sets[0], sets[1])


class Either(Wish):
    """The one wish or the other holds, or both."""

    def __init__(self, one, other):
        _ask(isinstance(one, Wish) and isinstance(other, Wish))
        self._make(("either", one.told(), other.told()), [], [one, other])

    def told(self):
        """The tuple ("either", what the one tells, what the other tells)."""
        return self._told

    def holds(self, box, width):
        """Whether it holds for the box at a width; NoPart, NoName."""
        return _holds(self, box, width)

    def widths(self, box):
        """The set of all widths at which it holds for the box; NoName, TooMany."""
        return _widths(self, box)

    def _joined(self, sets):
        return united(sets[0], sets[1])


class Not(Wish):
    """The wish does not hold."""

    def __init__(self, one):
        _ask(isinstance(one, Wish))
        self._make(("not", one.told()), [], [one])

    def told(self):
        """The tuple ("not", what the wish tells)."""
        return self._told

    def holds(self, box, width):
        """Whether it holds for the box at a width; NoPart, NoName."""
        return _holds(self, box, width)

    def widths(self, box):
        """The set of all widths at which it holds for the box; NoName, TooMany."""
        return _widths(self, box)

    def _joined(self, sets):
        return outside(sets[0])


def _ask(good):
    if not good:
        raise NoWish("a wish is made of names, whole numbers from 0 on, or wishes")


def _is_count(thing):
    return is_whole(thing) and thing >= 0


def _level(worth):
    """The line that tells the same at all widths."""
    return worth, NOTHING


def _line_less(one, other):
    return less(one[0], other[0]), less(one[1], other[1])


def _right(rows, name):
    """The line of the right side of a box."""
    _, x, _, wide, _ = place_of(rows, name)
    return added(x[0], wide[0]), added(x[1], wide[1])


def _around(box, name):
    """The name of the box around the one of that name, or None of the whole."""
    for kid in box.kids():
        found = box.name() if kid.name() == name else _around(kid, name)
        if found is not None:
            return found
    return None


def _holds(wish, box, width):
    look_at_width(width)
    parts = _all_in(wish)
    _look_at_names(parts, box)
    # As if all stayed as it is from the width on: at the width itself that tells what holds.
    rows = [(name, _level(x), y, _level(wide), tall) for name, x, y, wide, tall in laid(box, width)]
    return has(_settled(parts, box, [(width, None, rows)]), width)


def _widths(wish, box):
    parts = _all_in(wish)
    _look_at_names(parts, box)
    return _settled(parts, box, swept(box))


def _where(wish, box, stretches):
    """The set of all widths of the stretches at which a wish that is made of no wishes holds."""
    pairs = []
    for (low, high, _), amount in zip(stretches, wish._amounts(box, stretches)):
        begin = _begin(amount, low)
        if begin is not None:
            pairs.append((begin, high))
    # Where a line would come to 0 beyond the end, the pair has no width.
    return spans_of(pairs)


def _begin(line, low):
    """The first width from low on at which a line that does not fall is from 0 on, or None."""
    if not is_more(NOTHING, line_at(line, low)):
        return low
    begin, pace = line
    if pace == NOTHING:
        return None
    return quotient(less(NOTHING, begin), pace)


# Wishes may be made of wishes many times over, so they are gone through in loops: no depth is too much for Python.

def _all_in(wish):
    """The list of the wish and all it is made of, each behind what it is made of, in told's order."""
    found = []
    waiting = [wish]
    while waiting:
        one = waiting.pop()
        found.append(one)
        waiting.extend(one._wishes)
    found.reverse()
    return found


def _look_at_names(wishes, box):
    for wish in wishes:
        for name in wish._names:
            box.found(name)


def _settled(wishes, box, stretches):
    """The set of the last of the wishes of _all_in, of widths of the stretches."""
    waiting = []
    for wish in wishes:
        many = len(wish._wishes)
        if many == 0:
            waiting.append(_where(wish, box, stretches))
        else:
            made = waiting[-many:]
            del waiting[-many:]
            waiting.append(wish._joined(made))
    return waiting[0]
