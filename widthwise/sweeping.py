"""A tree of boxes swept over all widths of the whole, from 0 on, from one end to the next.

Between two ends no line takes other boxes, and x and width of each box go evenly with the whole's width. At an end
only those boxes are looked at that go on otherwise there. All is worked out in whole numbers, as in runs.
"""

from math import gcd

from widthwise.boxes import Column
from widthwise.lines import line_pairs, next_width
from widthwise.parts import is_more, reduced
from widthwise.runs import Run

# How many halves of the spare are ahead of a line.
HALVES = {"left": 0, "amid": 1, "right": 2}


class Spot:
    """A box that is swept, as it stands at the width that the sweep has come to.

    A place is a tuple (x, x_pace, wide, pace, bottom) of whole numbers: x and x_pace times the whole's width, by the
    bottom, is where the box begins; wide and pace times the whole's width, by the bottom, how wide it is.
    """

    def __init__(self, box):
        self.label = box.name()
        self.upright = isinstance(box, Column)
        self.folds = box.breaks()
        self.between = box.gap()
        self.halves = HALVES[box.lean()]
        self.least_high = box.tall() or 0
        self.inner = [Spot(kid) for kid in box.kids()]
        self.measures = [_measure(box, kid.sizes()) for kid in box.kids()]
        self.place = None
        # As the rows of the whole tell them.
        self.x = None
        self.y = None
        self.wide = None
        self.high = None
        # Of each line its first kid, the kid behind it, and the stretch of its run.
        self.parted = []
        # The whole's widths at which the box itself goes on otherwise, and it or one in it; None where there is none.
        self.own_end = None
        self.any_end = None
        # What was worked out already, for a box that comes to the same widths again: by kids, and by stretch, too.
        self.known_runs = {}
        self.known_shapes = {}


class Sweep:
    """A sweep over a tree, at first from the width 0 on."""

    def __init__(self, box):
        self._low = (0, 1)
        self._whole = Spot(box)
        self._spots = _all_in(self._whole)
        self._broken = False
        self._put(self._whole, (0, 0, 0, 1, 1))
        _stand(self._whole, 0)

    def end(self):
        """The width of the whole at which something in it goes on otherwise, or None."""
        return self._whole.any_end

    def go_on(self):
        """Goes on from the end, which is to be there."""
        self._low = self.end()
        self._broken = False
        self._pass(self._whole)
        if self._broken:
            _stand(self._whole, 0)

    def rows(self):
        """The list of the tuples (name, x, y, wide, tall) from here up to the end, as all_laid tells them."""
        return [(spot.label, spot.x, spot.y, spot.wide, spot.high) for spot in self._spots]

    def _put(self, spot, place):
        """Puts a spot to another place, and all within it."""
        x, x_pace, wide, pace, bottom = place
        spot.place = place
        spot.x = (reduced(x, bottom), reduced(x_pace, bottom))
        spot.wide = (reduced(wide, bottom), reduced(pace, bottom))
        if spot.inner:
            self._settle(spot, [])

    def _pass(self, spot):
        """Goes on with a spot in which an end is come to."""
        if spot.own_end == self._low:
            self._settle(spot, spot.parted)
        else:
            self._pass_kids(spot.inner)
            spot.any_end = _any_end(spot)

    def _pass_kids(self, kids):
        for kid in kids:
            if kid.any_end == self._low:
                self._pass(kid)

    def _settle(self, spot, staying):
        """Parts a spot into lines, and puts its kids; those of lines as in staying are in their places already."""
        width = _width_of(spot.place, self._low)
        pairs, broken_end = _pairs_at(spot, width)
        ends = [broken_end]
        parted = []
        for first, behind in pairs:
            stretch, end = _stretch_at(spot, first, behind, width)
            ends.append(end)
            parted.append((first, behind, stretch))
        self._broken = self._broken or pairs != [(first, behind) for first, behind, _ in spot.parted]
        spot.parted = parted
        for line in parted:
            self._put_kids(spot, line, line in staying)
        spot.own_end = _end_over(spot.place, _earliest(ends))
        spot.any_end = _any_end(spot)

    def _put_kids(self, spot, line, stays):
        kids = spot.inner[line[0]:line[1]]
        if stays:
            self._pass_kids(kids)
        else:
            for kid, shape in zip(kids, _shapes(spot, line)):
                place = _placed(spot.place, shape)
                if place != kid.place:
                    self._put(kid, place)
                elif kid.any_end == self._low:
                    self._pass(kid)


def _measure(box, sizes):
    """What a kid of such sizes is as an item of its line."""
    _, least, most, _, _ = sizes
    # In a column a kid takes all room that it may, by 53, and that is what such an item does in a line of its own.
    if isinstance(box, Column):
        return (least, least, most, 1, 0)
    return sizes


def _all_in(spot):
    found = [spot]
    for kid in spot.inner:
        found.extend(_all_in(kid))
    return found


def _stand(spot, upper):
    """Tells how high a spot that begins so far down is, and keeps it, and what is in it likewise."""
    high = spot.least_high
    for at, (first, behind, _) in enumerate(spot.parted):
        if at > 0:
            high += spot.between
        line_high = 0
        for kid in spot.inner[first:behind]:
            line_high = max(line_high, _stand(kid, upper + high))
        high += line_high
    spot.y = (upper, 1)
    spot.high = (high, 1)
    return high


def _width_of(place, low):
    """The width of a place where the whole is so wide, as its top and its bottom."""
    _, _, wide, pace, bottom = place
    return wide * low[1] + pace * low[0], bottom * low[1]


def _pairs_at(spot, width):
    """Pairs (first, behind) of the lines at a width of the spot, and the width at which there are others, or None."""
    many = len(spot.inner)
    if spot.upright:
        return [(at, at + 1) for at in range(many)], None
    if not spot.folds:
        return [(0, many)], None
    wishes = [measure[0] for measure in spot.measures]
    pairs = line_pairs(wishes, spot.between, width)
    return pairs, next_width(wishes, spot.between, pairs)


def _stretch_at(spot, first, behind, width):
    """The stretch of a line at a width of the spot, and the width at which it ends, or None."""
    run = _run_of(spot, first, behind)
    gaps = _gaps(spot, first, behind)
    stretch = run.stretch_at(width[0] - gaps * width[1], width[1])
    end = run.end(stretch)
    if end is not None:
        end = (end[0] + gaps * end[1], end[1])
    return stretch, end


def _run_of(spot, first, behind):
    if (first, behind) not in spot.known_runs:
        spot.known_runs[first, behind] = Run(spot.measures[first:behind])
    return spot.known_runs[first, behind]


def _gaps(spot, first, behind):
    return spot.between * (behind - first - 1)


def _shapes(spot, line):
    """The places of the kids in a line of the spot, as if the spot were the whole."""
    if line not in spot.known_shapes:
        spot.known_shapes[line] = _new_shapes(spot, line)
    return spot.known_shapes[line]


def _new_shapes(spot, line):
    first, behind, stretch = line
    lines, spare, bottom = _run_of(spot, first, behind).lines(stretch)
    gaps = _gaps(spot, first, behind)
    # By twice the bottom, for half of the spare may be ahead.
    x = spot.halves * (spare[0] - spare[1] * gaps)
    x_pace = spot.halves * spare[1]
    found = []
    for begin, pace in lines:
        wide = 2 * (begin - pace * gaps)
        found.append((x, x_pace, wide, 2 * pace, 2 * bottom))
        x += wide + 2 * bottom * spot.between
        x_pace += 2 * pace
    return found


def _placed(place, shape):
    """The place in the whole of what would have that shape as its place if the box around it were the whole."""
    x, x_pace, wide, pace, bottom = place
    in_x, in_x_pace, in_wide, in_pace, in_bottom = shape
    x = x * in_bottom + in_x * bottom + in_x_pace * wide
    x_pace = x_pace * in_bottom + in_x_pace * pace
    wide = in_wide * bottom + in_pace * wide
    pace = in_pace * pace
    bottom = bottom * in_bottom
    # In lowest terms, so that the same places are alike, and no numbers grow beyond need.
    divisor = gcd(x, x_pace, wide, pace, bottom)
    return x // divisor, x_pace // divisor, wide // divisor, pace // divisor, bottom // divisor


def _end_over(place, end):
    """The width of the whole at which a box in such a place comes to an end of its own width, or None."""
    _, _, wide, pace, bottom = place
    if end is None or pace == 0:
        return None
    return reduced(end[0] * bottom - wide * end[1], pace * end[1])


def _any_end(spot):
    return _earliest([spot.own_end] + [kid.any_end for kid in spot.inner])


def _earliest(ends):
    """The least of the ends that are no None, or None."""
    found = None
    for end in ends:
        if end is not None and (found is None or is_more(found, end)):
            found = end
    return found
