"""What a registry knows of a brand: how its things are taken apart, made and built."""

from brinejar.errors import InvalidMade, InvalidReduction
from brinejar.nodes import Book, Thing, set_fields


class AllowedBrand:
    """A brand whose things consist of their fields alone, without hooks."""

    def __init__(self, brand):
        self.takes = 0
        self._brand = brand

    @property
    def brand(self):
        """The brand itself."""
        return self._brand

    def take_apart(self, thing):
        """Return the arguments, the state, and the fields that take the place of a state."""
        return (), None, thing.fields

    def make_thing(self, _):
        """Return a new thing without fields."""
        return Thing(self._brand)

    def build_thing(self, thing, state):
        """Set the fields of the pairs of a Book."""
        set_fields(thing, state.pairs)

    def accepts_state(self, draft):
        """Tell whether a thing can be built with the state that has this draft."""
        return isinstance(draft, Book) and all([isinstance(key, str) for key, _ in draft.pairs])

    def draft_building(self, draft):
        """Return the state, and the fields that take its place."""
        return None, draft.pairs


class EnteredBrand:
    """A brand with hooks; they are not looked at before they are called."""

    def __init__(self, brand, make, reduce, takes, build):
        self.takes = takes
        self._brand = brand
        self._make_hook = make
        self._reduce_hook = reduce
        self._build_hook = build

    @property
    def brand(self):
        """The brand itself."""
        return self._brand

    def take_apart(self, thing):
        """Return the arguments and the state; there are no fields in the place of a state."""
        reduction = self._reduce_hook(thing)
        if not self._is_reduction(reduction):
            raise InvalidReduction(self._brand)
        arguments, state = reduction
        return arguments, state, ()

    def make_thing(self, arguments):
        """Return the thing that the hook makes."""
        made = self._make_hook(arguments)
        if not isinstance(made, Thing):
            raise InvalidMade(self._brand)
        return made

    def build_thing(self, thing, state):
        """Give a thing its state."""
        self._build_hook(thing, state)

    def accepts_state(self, _):
        """Tell whether a thing can be built."""
        return self._build_hook is not None

    def draft_building(self, draft):
        """Return the state; there are no fields in its place."""
        return draft, ()

    def _is_reduction(self, reduction):
        if not isinstance(reduction, tuple) or len(reduction) != 2:
            return False
        arguments, state = reduction
        if not isinstance(arguments, tuple) or len(arguments) != self.takes:
            return False
        return state is None or self._build_hook is not None
