"""Sharing out the room of a line among its items by one number, the share."""

from widthwise.errors import NoItem
from widthwise.parts import added, greater, is_more, less, lesser, part_of, product, quotient
from widthwise.sizes import is_sizes

NOTHING = (0, 1)


def is_item(thing):
    """Whether a thing is an item, a tuple as the sizes of a box are; of anything."""
    return is_sizes(thing)


def width_at(item, share):
    """How wide an item is with a share; NoItem."""
    look_at_items([item])
    wish, least, most, grow, shrink = item
    if is_more(NOTHING, share):
        return greater(added(part_of(wish), product(share, part_of(shrink))), part_of(least))
    width = added(part_of(wish), product(share, part_of(grow)))
    if most is None:
        return width
    return lesser(width, part_of(most))


def shared(items, room):
    """The tuple (share, widths, spare, over) of a line of items with such a room; NoItem."""
    look_at_items(items)
    share = _share_of(items, room)
    widths = [width_at(item, share) for item in items]
    left = room
    for width in widths:
        left = less(left, width)
    return share, widths, greater(left, NOTHING), greater(less(NOTHING, left), NOTHING)


def is_shared(items, room, widths):
    """Whether these are the widths of the items in such a room; NoItem."""
    return shared(items, room)[1] == widths


def look_at_items(items):
    if not isinstance(items, list) or not all([is_item(item) for item in items]):
        raise NoItem("not an item, or not a list of items")


def _share_of(items, room):
    wishes = part_of(sum([item[0] for item in items]))
    if is_more(wishes, room):
        return less(NOTHING, _least_share(_givers(items), less(wishes, room)))
    return _least_share(_takers(items), less(room, wishes))


# Room is taken and given by the same rule, so items are made pairs (weight, limit) for both: of those
# that have a weight, the limit telling how much room they can take or give, None where there is no end.

def _takers(items):
    found = []
    for wish, _, most, grow, _ in items:
        if grow > 0:
            found.append((grow, None if most is None else most - wish))
    return found


def _givers(items):
    return [(shrink, wish - least) for wish, least, _, _, shrink in items if shrink > 0]


def _least_share(pairs, need):
    """The least share from 0 on with which the pairs come to the need, or else all are at their limits."""
    free = pairs
    while free:
        share = quotient(need, part_of(sum([weight for weight, _ in free])))
        full = [pair for pair in free if _is_beyond(pair, share)]
        if not full:
            return share
        # As these stay behind it, the share that is looked for is no less, and they are at their limits there, too.
        need = less(need, part_of(sum([limit for _, limit in full])))
        free = [pair for pair in free if not _is_beyond(pair, share)]
    return _last_limit(pairs)


def _is_beyond(pair, share):
    weight, limit = pair
    return limit is not None and is_more(product(share, part_of(weight)), part_of(limit))


def _last_limit(pairs):
    """The least share from 0 on with which all pairs are at their limits."""
    found = NOTHING
    for weight, limit in pairs:
        found = greater(found, part_of(limit, weight))
    return found
