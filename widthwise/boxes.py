"""Trees of boxes: the Box of a tree, and what it tells of itself."""

from widthwise.errors import NoBox, NoName
from widthwise.sizes import is_size, is_sizes

MOST_BOXES = 40
MOST_WITHIN = 6
MOST_KIDS = 12
MOST_SIGNS = 8

LETTERS = "abcdefghijklmnopqrstuvwxyz"
LETTERS_AND_FIGURES = "abcdefghijklmnopqrstuvwxyz0123456789"
LEANS = ("left", "amid", "right")
# Words of the texts and of the desk, so no box is called so.
WORDS = ("box", "row", "column", "left", "amid", "right", "breaks")


# Each class tells all by methods of its own, as the interface lists them for each of them.
class Box:
    """A box with all that is in it."""

    def __init__(self, tree, kids):
        self._tree = tree
        self._kids = kids

    def tree(self):
        """The tree of the box."""
        return self._tree

    def name(self):
        """The name of the box."""
        return self._tree[1]

    def sizes(self):
        """The tuple (wish, least, most, grow, shrink)."""
        return self._tree[2]

    def kids(self):
        """The list of the Boxes that stand in it."""
        return list(self._kids)

    def names(self):
        """The list of all names in it, its own first, a box ahead of its kids."""
        return _names_of(self)

    def found(self, name):
        """The Box of that name in it, or it itself; NoName."""
        return _found_in(self, name)

    def gap(self):
        """The gap between its kids."""
        return 0

    def lean(self):
        """Where its kids stand when there is width over."""
        return "left"

    def breaks(self):
        """Whether its kids are broken into lines."""
        return False

    def tall(self):
        """How high it is, where its tree tells it, else None."""
        return None


class Plain(Box):
    """A box without kids."""

    def __init__(self, name, sizes, tall):
        Box.__init__(self, ("box", name, tuple(sizes), tall), ())

    def tree(self):
        """The tree ("box", name, sizes, tall)."""
        return self._tree

    def name(self):
        """The name of the box."""
        return self._tree[1]

    def sizes(self):
        """The tuple (wish, least, most, grow, shrink)."""
        return self._tree[2]

    def kids(self):
        """A list without Boxes."""
        return []

    def names(self):
        """The list of its own name."""
        return _names_of(self)

    def found(self, name):
        """It itself where it has that name; NoName."""
        return _found_in(self, name)

    def gap(self):
        """0, for it has no kids."""
        return 0

    def lean(self):
        """Left, for it has no kids."""
        return "left"

    def breaks(self):
        """False, for it has no kids."""
        return False

    def tall(self):
        """How high it is."""
        return self._tree[3]


class Row(Box):
    """A box with kids beside one another."""

    def __init__(self, name, sizes, gap, lean, breaks, kids):
        trees = tuple([kid.tree() for kid in kids])
        Box.__init__(self, ("row", name, tuple(sizes), gap, lean, breaks, trees), tuple(kids))

    def tree(self):
        """The tree ("row", name, sizes, gap, lean, breaks, kids)."""
        return self._tree

    def name(self):
        """The name of the box."""
        return self._tree[1]

    def sizes(self):
        """The tuple (wish, least, most, grow, shrink)."""
        return self._tree[2]

    def kids(self):
        """The list of the Boxes that stand in it."""
        return list(self._kids)

    def names(self):
        """The list of all names in it, its own first, a box ahead of its kids."""
        return _names_of(self)

    def found(self, name):
        """The Box of that name in it, or it itself; NoName."""
        return _found_in(self, name)

    def gap(self):
        """The gap between its kids, and between its lines."""
        return self._tree[3]

    def lean(self):
        """Where its kids stand when there is width over."""
        return self._tree[4]

    def breaks(self):
        """Whether its kids are broken into lines."""
        return self._tree[5]

    def tall(self):
        """None, for it is as high as its kids make it."""
        return None


class Column(Box):
    """A box with kids one below the other."""

    def __init__(self, name, sizes, gap, lean, kids):
        trees = tuple([kid.tree() for kid in kids])
        Box.__init__(self, ("column", name, tuple(sizes), gap, lean, trees), tuple(kids))

    def tree(self):
        """The tree ("column", name, sizes, gap, lean, kids)."""
        return self._tree

    def name(self):
        """The name of the box."""
        return self._tree[1]

    def sizes(self):
        """The tuple (wish, least, most, grow, shrink)."""
        return self._tree[2]

    def kids(self):
        """The list of the Boxes that stand in it."""
        return list(self._kids)

    def names(self):
        """The list of all names in it, its own first, a box ahead of its kids."""
        return _names_of(self)

    def found(self, name):
        """The Box of that name in it, or it itself; NoName."""
        return _found_in(self, name)

    def gap(self):
        """The gap between its kids."""
        return self._tree[3]

    def lean(self):
        """Where its kids stand when there is width over."""
        return self._tree[4]

    def breaks(self):
        """False, for only rows break."""
        return False

    def tall(self):
        """None, for it is as high as its kids make it."""
        return None


def box_of(tree):
    """The Box of a tree; NoBox of anything that is none."""
    return _box(tree, 1, [])


def is_name(thing):
    """Whether a thing is a name that a box may have; of anything."""
    if not isinstance(thing, str) or not 1 <= len(thing) <= MOST_SIGNS:
        return False
    if thing[0] not in LETTERS or thing in WORDS:
        return False
    return all([sign in LETTERS_AND_FIGURES for sign in thing])


def is_lean(thing):
    """Whether a thing is a lean; of anything."""
    return isinstance(thing, str) and thing in LEANS


def _box(tree, within, names):
    """The Box of a tree, so many boxes within one another down to it, the names those met before it."""
    # The names gather all that are met, so a tree of too many boxes is refused before it is gone through.
    if within > MOST_WITHIN or len(names) == MOST_BOXES:
        raise NoBox("too many boxes, or too many within one another")
    if not _is_formed(tree) or tree[1] in names:
        raise NoBox("not a tree of boxes with unlike names")
    names.append(tree[1])
    if tree[0] == "box":
        return Plain(tree[1], tree[2], tree[3])
    kids = [_box(kid, within + 1, names) for kid in tree[-1]]
    if tree[0] == "row":
        return Row(tree[1], tree[2], tree[3], tree[4], tree[5], kids)
    return Column(tree[1], tree[2], tree[3], tree[4], kids)


def _is_formed(thing):
    """Whether a thing is a tree as far as is seen without a look at its kids."""
    if not isinstance(thing, tuple) or len(thing) < 4 or not isinstance(thing[0], str):
        return False
    if not is_name(thing[1]) or not is_sizes(thing[2]) or not is_size(thing[3]):
        return False
    if thing[0] == "box":
        return len(thing) == 4
    if thing[0] == "row":
        return len(thing) == 7 and is_lean(thing[4]) and isinstance(thing[5], bool) and _are_kids(thing[6])
    if thing[0] == "column":
        return len(thing) == 6 and is_lean(thing[4]) and _are_kids(thing[5])
    return False


def _are_kids(thing):
    return isinstance(thing, tuple) and len(thing) <= MOST_KIDS


def _all_in(box):
    """The list of the box and all within it, a box ahead of its kids."""
    found = [box]
    for kid in box.kids():
        found.extend(_all_in(kid))
    return found


def _names_of(box):
    return [one.name() for one in _all_in(box)]


def _found_in(box, name):
    for one in _all_in(box):
        if one.name() == name:
            return one
    raise NoName("no box of that name is there")
