"""Lines of items at all rooms: stretches of the room, in each of which all widths grow evenly.

All is worked out in whole numbers: many lines are looked at for a tree, and parts take their time.
"""

from math import lcm


class Run:
    """A line of items at all rooms, its stretches numbered from 0 as the room rises."""

    def __init__(self, measures):
        self._wishes = sum([wish for wish, _, _, _, _ in measures])
        # Told in parts of the scale, all shares at which an item comes to its limit are whole numbers.
        self._scale = 1
        for _, _, _, grow, shrink in measures:
            self._scale = lcm(self._scale, grow or 1, shrink or 1)
        # Room is taken and given by the same rule: of each item its wish, its weight, and how much it takes or gives
        # at most, None where there is no end.
        self._takers = [(wish, grow, None if most is None else most - wish) for wish, _, most, grow, _ in measures]
        self._givers = [(wish, shrink, wish - least) for wish, least, _, _, shrink in measures]
        self._ends = []
        self._states = []
        self._gather()

    def stretches(self):
        """The list of the numbers of its stretches."""
        return list(range(len(self._ends)))

    def stretch_at(self, top, bottom):
        """The number of the stretch that has the room top / bottom."""
        scaled = top * self._scale
        at = 0
        while self._ends[at] is not None and self._ends[at] * bottom <= scaled:
            at += 1
        return at

    def end(self, at):
        """The room below which a stretch is, as its top and its bottom, or None."""
        if self._ends[at] is None:
            return None
        return self._ends[at], self._scale

    def lines(self, at):
        """The list of the widths in a stretch, the spare, and the bottom of them all.

        Each is a pair (begin, pace) of whole numbers: begin and pace times the room, by the bottom.
        """
        sign, share, limits, weights = self._states[at]
        # The room in which those that are not at their limits would be as they wish.
        base = self._wishes + sign * limits
        bottom = weights or 1
        found = []
        for wish, weight, limit in self._takers if sign > 0 else self._givers:
            if weight == 0:
                found.append((wish * bottom, 0))
            elif limit is not None and limit * self._scale <= share * weight:
                found.append(((wish + sign * limit) * bottom, 0))
            else:
                found.append((wish * bottom - weight * base, weight))
        # Room is left over only where all that take it are at their most.
        if sign > 0 and weights == 0:
            return found, (-base, 1), bottom
        return found, (0, 0), bottom

    def _gather(self):
        wishes = self._wishes * self._scale
        for far, share, limits, weights in reversed(_stretches(self._givers, self._scale)):
            self._ends.append(wishes - far)
            self._states.append((-1, share, limits, weights))
        taking = _stretches(self._takers, self._scale)
        for _, share, limits, weights in taking:
            self._states.append((1, share, limits, weights))
        self._ends.extend([wishes + stretch[0] for stretch in taking[1:]] + [None])


def _stretches(pulls, scale):
    """The stretches on one side of the wishes' sum, away from it: tuples (far, share, limits, weights).

    Where a stretch begins, the room is so far from the wishes' sum, and the share so far from 0, both in parts of the
    scale; the items that are at their limits there take or give so much, and the others have so much weight together.
    """
    weights = sum([weight for _, weight, limit in pulls if limit != 0])
    turns = sorted([(limit * scale // weight, limit, weight) for _, weight, limit in pulls if weight > 0 and limit])
    limits = 0
    found = [(0, 0, 0, weights)]
    for share, limit, weight in turns:
        limits += limit
        weights -= weight
        # Items that come to their limits at once end one stretch together.
        if found[-1][1] == share:
            found.pop()
        found.append((limits * scale + weights * share, share, limits, weights))
    return found
