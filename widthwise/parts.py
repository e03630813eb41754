"""Parts: exact fractions, told as tuples (top, bottom) in lowest terms."""

from math import gcd

from widthwise.errors import NoPart
from widthwise.figures import figures_of, is_number, number_of


def is_whole(thing):
    """Whether a thing is a whole number: an int that is no truth; of anything."""
    return isinstance(thing, int) and not isinstance(thing, bool)


def is_part(thing):
    """Whether a thing is a part; of anything."""
    if not isinstance(thing, tuple) or len(thing) != 2:
        return False
    top, bottom = thing
    if not is_whole(top) or not is_whole(bottom):
        return False
    return bottom > 0 and gcd(top, bottom) == 1


def is_width(thing):
    """Whether a thing is a part from 0 on; of anything."""
    return is_part(thing) and thing[0] >= 0


def look_at_width(thing):
    """Refuses what is no part from 0 on with NoPart; of anything."""
    if not is_width(thing):
        raise NoPart("a width is a part from 0 on")


def part_of(top, bottom=1):
    """The part that is top / bottom; NoPart of a bottom that is 0."""
    if not is_whole(top) or not is_whole(bottom) or bottom == 0:
        raise NoPart("a part has whole numbers, and no bottom of 0")
    # The sign is kept by the top alone.
    if bottom < 0:
        return reduced(-top, -bottom)
    return reduced(top, bottom)


def reduced(top, bottom):
    """The part that is top / bottom, of whole numbers, the bottom from 1 on."""
    divisor = gcd(top, bottom)
    return top // divisor, bottom // divisor


def added(one, other):
    """The one part and the other together."""
    return part_of(one[0] * other[1] + other[0] * one[1], one[1] * other[1])


def less(one, other):
    """The one part less the other."""
    return part_of(one[0] * other[1] - other[0] * one[1], one[1] * other[1])


def product(one, other):
    """The one part times the other."""
    return part_of(one[0] * other[0], one[1] * other[1])


def quotient(one, other):
    """The one part by the other; NoPart by 0."""
    # By 0 the bottom becomes 0, which part_of refuses.
    return part_of(one[0] * other[1], one[1] * other[0])


def is_more(one, other):
    """Whether the one part is more than the other."""
    return one[0] * other[1] > other[0] * one[1]


def lesser(one, other):
    """The one of two parts that is no more than the other."""
    if is_more(one, other):
        return other
    return one


def greater(one, other):
    """The one of two parts that the other is no more than."""
    if is_more(other, one):
        return other
    return one


def part_text(part):
    """A part as it is written."""
    top, bottom = part
    text = figures_of(abs(top))
    if top < 0:
        text = "-" + text
    if bottom == 1:
        return text
    return f"{text}/{figures_of(bottom)}"


def read_part(text):
    """The part that is written just so; NoPart of any other text."""
    top_text, stroke, bottom_text = text.partition("/")
    if not stroke:
        bottom_text = "1"
    figures = top_text.removeprefix("-")
    if not is_number(figures) or not is_number(bottom_text):
        raise NoPart("a part is written in figures, without noughts ahead")
    top = number_of(figures)
    if top_text != figures:
        top = -top
    part = (top, number_of(bottom_text))
    # Of all the ways to write a part only the one that part_text tells is let by.
    if not is_part(part) or part_text(part) != text:
        raise NoPart("a part is not written so")
    return part
