"""Sets of widths, told as lists of spans (low, high), high None for no end."""

from widthwise.errors import NoSpan
from widthwise.parts import greater, is_more, is_part, is_width


def is_spans(thing):
    """Whether a thing is a set of widths, told as a list of spans; of anything."""
    if not _is_pairs(thing):
        return False
    # Below all lows that can be, so that the first span has one ahead, too.
    end = (-1, 1)
    for low, high in thing:
        if _reaches(end, low) or not _is_above(high, low):
            return False
        end = high
    return True


def spans_of(pairs):
    """The set of all widths that some pair (low, high) of a list has; NoSpan of others."""
    if not _is_pairs(pairs):
        raise NoSpan("not a list of pairs of a low and a high")
    return _joined(_by_low([pair for pair in pairs if _is_above(pair[1], pair[0])]))


def united(one, other):
    """The set of the widths that are in the one set, in the other, or in both."""
    _look_at(one)
    _look_at(other)
    return _joined(_merged(one, other))


def common(one, other):
    """The set of the widths that are in both sets."""
    # What is in both is what is outside of neither.
    return outside(united(outside(one), outside(other)))


def outside(one):
    """The set of the widths from 0 on that are not in the set."""
    _look_at(one)
    found = []
    free = (0, 1)
    for low, high in one:
        if is_more(low, free):
            found.append((free, low))
        free = high
    if free is not None:
        found.append((free, None))
    return found


def has(one, width):
    """Whether a width is in the set; nothing that is handed in is looked at."""
    for low, high in one:
        if not is_more(low, width) and _is_above(high, width):
            return True
    return False


def _look_at(thing):
    if not is_spans(thing):
        raise NoSpan("not a set of widths")


def _is_pairs(thing):
    return isinstance(thing, list) and all([_is_pair(pair) for pair in thing])


def _is_pair(thing):
    if not isinstance(thing, tuple) or len(thing) != 2:
        return False
    low, high = thing
    return is_width(low) and (high is None or is_part(high))


def _is_above(high, width):
    # No end is above all widths.
    return high is None or is_more(high, width)


def _reaches(high, low):
    # A span that ends just where the next begins leaves no width between them.
    return high is None or not is_more(low, high)


def _by_low(pairs):
    # Parts do not rise as their tuples do, so Python's own order is of no use here.
    if len(pairs) < 2:
        return pairs
    half = len(pairs) // 2
    return _merged(_by_low(pairs[:half]), _by_low(pairs[half:]))


def _merged(one, other):
    # Two lists of pairs with rising lows, made one such list.
    found = []
    at = 0
    for pair in one:
        while at < len(other) and is_more(pair[0], other[at][0]):
            found.append(other[at])
            at += 1
        found.append(pair)
    return found + other[at:]


def _joined(pairs):
    # Of pairs with rising lows, those that overlap or touch are made one span.
    found = []
    for low, high in pairs:
        if found and _reaches(found[-1][1], low):
            first, end = found[-1]
            found[-1] = (first, _later(end, high))
        else:
            found.append((low, high))
    return found


def _later(one, other):
    if one is None or other is None:
        return None
    return greater(one, other)
