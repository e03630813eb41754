"""Sizes, weights, and the tuples (wish, least, most, grow, shrink) that boxes and items have."""

from widthwise.parts import is_whole

MOST_SIZE = 1000
MOST_WEIGHT = 20


def is_size(thing):
    """Whether a thing is a size; of anything."""
    return is_whole(thing) and 0 <= thing <= MOST_SIZE


def is_weight(thing):
    """Whether a thing is a weight; of anything."""
    return is_whole(thing) and 0 <= thing <= MOST_WEIGHT


def is_sizes(thing):
    """Whether a thing is a tuple (wish, least, most, grow, shrink) as boxes have it; of anything."""
    if not isinstance(thing, tuple) or len(thing) != 5:
        return False
    wish, least, most, grow, shrink = thing
    if not is_size(wish) or not is_size(least) or not is_weight(grow) or not is_weight(shrink):
        return False
    if wish < least:
        return False
    return most is None or (is_size(most) and most >= wish)
