"""Ready hooks for things that consist of fields."""

from brinejar.atoms import is_free_brand, is_text
from brinejar.errors import InvalidBrand, InvalidKey, InvalidValue
from brinejar.nodes import Book, Thing, set_fields


class Fields:
    """Makes things of one brand with one field for each argument."""

    def __init__(self, brand, *labels):
        if not is_free_brand(brand):
            raise InvalidBrand(brand)
        require_labels(labels)
        self._brand = brand
        self._labels = labels

    def __call__(self, arguments):
        thing = Thing(self._brand)
        set_fields(thing, tuple(zip(self._labels, arguments)))
        return thing


class Single:
    """Makes always the same thing."""

    def __init__(self, thing):
        if not isinstance(thing, Thing):
            raise InvalidValue(thing)
        self._thing = thing

    def __call__(self, arguments):
        return self._thing


class Parts:
    """Takes a thing apart into some of its fields as arguments."""

    def __init__(self, *labels):
        require_labels(labels)
        self._labels = labels

    def __call__(self, thing):
        return tuple([thing.field(label) for label in self._labels]), None


class Whole:
    """Takes a thing apart into one Book of its fields as the state."""

    def __call__(self, thing):
        return (), Book.of(thing.fields)


class Refill:
    """Builds a thing by setting the fields of a Book."""

    def __call__(self, thing, state):
        set_fields(thing, state.pairs)


def require_labels(labels):
    """Raise InvalidKey for the first of the labels that is no text or occurs twice."""
    taken = {}
    for label in labels:
        if not is_text(label) or label in taken:
            raise InvalidKey(label)
        taken[label] = True
