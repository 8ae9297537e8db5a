"""Drafts: what the dry run has in the places of things, classes and outside values.

All other values are their own drafts, with drafts in their contents.
"""

from brinejar.nodes import Node, shorten_node


class ThingDraft(Node):
    """The draft of a thing: the brand of the class that made it, its arguments, and how it was built."""

    SHAPE = "thing"

    def __init__(self, brand, arguments):
        # Each building is a pair of the state and of the fields that take its place.
        self.buildings = []
        self._brand = brand
        self._arguments = arguments

    @property
    def brand(self):
        """The brand of the class that made the thing."""
        return self._brand

    @property
    def arguments(self):
        """The tuple of the arguments."""
        return self._arguments


class OutsideDraft(Node):
    """The draft of an outside value, which has no contents."""

    SHAPE = "outside"

    def __init__(self, label):
        self._label = label

    @property
    def label(self):
        """The text that stands for the outside value."""
        return self._label


class ClassDraft:
    """A class on the stack: a brand of which a thing is to be made."""

    def __init__(self, brand):
        self._brand = brand

    @property
    def shape(self):
        """The word for the class of the draft."""
        return "class"

    @property
    def brand(self):
        """The brand of which a thing is to be made."""
        return self._brand


def shape_of(draft):
    """Return the shape of a draft."""
    if draft is None:
        return "none"
    if isinstance(draft, bool):
        return "truth"
    if isinstance(draft, int):
        return "integer"
    return "text" if isinstance(draft, str) else draft.shape


def shorten_draft(draft, contents):
    """Take back what was added last to the draft of a thing, a Row, a Book or a Bag."""
    if isinstance(draft, ThingDraft):
        del draft.buildings[len(draft.buildings) - len(contents):]
    else:
        shorten_node(draft, contents)


def is_key_draft(draft):
    """Tell whether a draft is that of a key."""
    return shape_of(draft) in ("integer", "text")
