"""Breaking boxes with wishes into lines."""

from widthwise.parts import is_more, part_of


def broken(wishes, gap, width):
    """The list of lines, each the list of its wishes' numbers, from 0."""
    lines = []
    for at, wish in enumerate(wishes):
        if lines and goes_into(_wishes_of(lines[-1], wishes) + [wish], gap, width):
            lines[-1].append(at)
        else:
            lines.append([at])
    return lines


def goes_into(wishes, gap, width):
    """Whether all wishes, with a gap between each two, are no more than the width."""
    return not wishes or not is_more(part_of(_taken(wishes, gap)), width)


def fewest(wishes, gap, width):
    """How many lines there are at least, each box in order."""
    # A line that takes all that goes into it leaves the fewest to those behind it, so none can do with fewer.
    return len(broken(wishes, gap, width))


def next_width(wishes, gap, width):
    """The least width above this one at which they are broken otherwise, or None."""
    ends = []
    for line in broken(wishes, gap, width)[:-1]:
        behind = line[-1] + 1
        ends.append(_taken(_wishes_of(line + [behind], wishes), gap))
    # The line that takes a wish more first is the first one to be another.
    if not ends:
        return None
    return part_of(min(ends))


def _wishes_of(line, wishes):
    return [wishes[at] for at in line]


def _taken(wishes, gap):
    return sum(wishes) + gap * (len(wishes) - 1)
