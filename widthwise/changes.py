"""Changes of trees, and sheets: a tree and a width that are changed, and taken back."""

from widthwise.boxes import box_of, is_name
from widthwise.errors import NoBox, NoChange, NoName
from widthwise.laying import Memory, laid_from
from widthwise.parts import is_whole, look_at_width

# How many items the tuple of each change has.
LENGTHS = {"sizes": 3, "tall": 3, "gap": 3, "lean": 3, "breaks": 3, "put": 4, "drop": 2, "swap": 3}
# Which item of a tree a change sets, and in which kinds of trees.
PLACES = {
    "sizes": (2, ("box", "row", "column")), "tall": (3, ("box",)), "gap": (3, ("row", "column")),
    "lean": (4, ("row", "column")), "breaks": (5, ("row",)),
}


def changed(box, change):
    """The Box behind a change; NoChange."""
    if not _is_formed(change):
        raise NoChange("not a change")
    try:
        return box_of(_changed_tree(box, change))
    except (NoBox, NoName):
        raise NoChange("a change that cannot be done") from None


class Sheet:
    """A tree and a width, with all that was changed in them."""

    def __init__(self, box, width):
        look_at_width(width)
        self._states = [(box, width)]
        self._at = 0
        self._memory = Memory()

    def box(self):
        """The Box as it is now."""
        return self._states[self._at][0]

    def width(self):
        """The width as it is now."""
        return self._states[self._at][1]

    def change(self, change):
        """Changes the tree; NoChange."""
        self._go_on(changed(self.box(), change), self.width())

    def widen(self, width):
        """Sets the width; NoPart."""
        look_at_width(width)
        self._go_on(self.box(), width)

    def undo(self):
        """Takes back the last change or widening; NoChange where there is none."""
        if self._at == 0:
            raise NoChange("nothing can be taken back")
        self._at -= 1

    def redo(self):
        """Does again what was taken back last; NoChange where there is none."""
        if self._at + 1 == len(self._states):
            raise NoChange("nothing can be done again")
        self._at += 1

    def laid(self):
        """What laid tells of the tree at the width."""
        return laid_from(self._memory, self.box(), self.width())

    def layings(self):
        """How many boxes were laid out in all by laid()."""
        return self._memory.many

    def _go_on(self, box, width):
        # What was taken back cannot be done again behind something new.
        self._states = self._states[:self._at + 1] + [(box, width)]
        self._at += 1


def _is_formed(thing):
    """Whether a thing is a change as far as is seen without a look at the tree; of anything."""
    if not isinstance(thing, tuple) or len(thing) < 2:
        return False
    if not isinstance(thing[0], str) or thing[0] not in LENGTHS or len(thing) != LENGTHS[thing[0]]:
        return False
    if thing[0] == "swap" and not is_name(thing[2]):
        return False
    return is_name(thing[1])


def _changed_tree(box, change):
    """What the whole tree becomes, though it may be none; NoChange, NoName."""
    if change[0] == "put":
        return _with_put(box, change)
    if change[0] == "drop":
        return _with_dropped(box, change[1])
    if change[0] == "swap":
        return _with_swapped(box, change[1], change[2])
    return _with_set(box, change)


def _with_set(box, change):
    word, name, worth = change
    tree = box.found(name).tree()
    at, kinds = PLACES[word]
    if tree[0] not in kinds:
        raise NoChange("a box of another kind")
    return _exchanged(box.tree(), name, tree[:at] + (worth,) + tree[at + 1:])


def _with_put(box, change):
    _, name, at, kid = change
    tree = box.found(name).tree()
    if tree[0] == "box" or not is_whole(at) or not 0 <= at <= len(tree[-1]):
        raise NoChange("no place for a kid")
    return _with_kids(box, tree, tree[-1][:at] + (kid,) + tree[-1][at:])


def _with_dropped(box, name):
    around = _around(box.tree(), name)
    return _with_kids(box, around, tuple([kid for kid in around[-1] if kid[1] != name]))


def _with_swapped(box, one, other):
    around = _around(box.tree(), one)
    names = [kid[1] for kid in around[-1]]
    if one == other or other not in names:
        raise NoChange("not two kids of one box")
    kids = list(around[-1])
    at = names.index(one)
    other_at = names.index(other)
    kids[at], kids[other_at] = kids[other_at], kids[at]
    return _with_kids(box, around, tuple(kids))


def _around(tree, name):
    """The tree of which that one is a kid; NoChange of the whole."""
    waiting = [tree]
    while waiting:
        one = waiting.pop()
        if one[0] != "box":
            if name in [kid[1] for kid in one[-1]]:
                return one
            waiting.extend(one[-1])
    raise NoChange("no kid of that name")


def _with_kids(box, tree, kids):
    return _exchanged(box.tree(), tree[1], tree[:-1] + (kids,))


def _exchanged(tree, name, other):
    """The tree in which another stands for the one of that name."""
    if tree[1] == name:
        return other
    if tree[0] == "box":
        return tree
    return tree[:-1] + (tuple([_exchanged(kid, name, other) for kid in tree[-1]]),)
