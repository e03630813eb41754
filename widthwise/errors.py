"""The refusals: each kind has a class of its own, and all stand under WideError."""


class WideError(ValueError):
    """Any refusal of the program."""

    def __init__(self, why=""):
        ValueError.__init__(self, why)
        self.kind = self.__class__.__name__


class NoPart(WideError):
    """Something is no part, or no part that is asked for there."""


class NoSpan(WideError):
    """Something is no set of widths, or no list of pairs that make one."""


class NoBox(WideError):
    """Something is no tree of boxes."""


class NoText(WideError):
    """A text is not how a tree is written."""


class NoItem(WideError):
    """Something is no item of a line."""


class NoName(WideError):
    """A box of that name is not there."""


class NoWish(WideError):
    """Something is not what such a wish is made of."""


class NoChange(WideError):
    """Something is no change, or one that cannot be done."""


class NoRow(WideError):
    """A row told to the desk is of no form, or of a sheet where there is none."""


class TooMany(WideError):
    """There are more pieces over the widths than are told."""
