"""Breaking boxes with wishes into lines."""

from widthwise.parts import is_more, part_of


def broken(wishes, gap, width):
    """The list of lines, each the list of its wishes' numbers, from 0."""
    return [list(range(first, behind)) for first, behind in line_pairs(wishes, gap, width)]


def goes_into(wishes, gap, width):
    """Whether all wishes, with a gap between each two, are no more than the width."""
    return not wishes or not is_more(part_of(_taken(wishes, gap)), width)


def fewest(wishes, gap, width):
    """How many lines there are at least, each box in order."""
    # A line that takes all that goes into it leaves the fewest to those behind it, so none can do with fewer.
    return len(line_pairs(wishes, gap, width))


def line_pairs(wishes, gap, width):
    """The lines as pairs (first, behind) of the numbers of the first wish and of the one behind the last."""
    # What is taken is a whole number, so it goes into a width just where it goes into that one's whole part.
    whole = width[0] // width[1]
    found = []
    first = 0
    taken = 0
    for at, wish in enumerate(wishes):
        if at > first and taken + gap + wish > whole:
            found.append((first, at))
            first = at
        taken = taken + gap + wish if at > first else wish
    if wishes:
        found.append((first, len(wishes)))
    return found


def next_width(wishes, gap, pairs):
    """The least width at which wishes that are broken into such pairs (first, behind) are broken otherwise, or None."""
    # The line that takes a wish more first is the first one to be another.
    ends = [_taken(wishes[first:behind + 1], gap) for first, behind in pairs[:-1]]
    if not ends:
        return None
    return part_of(min(ends))


def _taken(wishes, gap):
    return sum(wishes) + gap * (len(wishes) - 1)
