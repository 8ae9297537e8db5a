"""Who makes and builds things for the machine, and knows outside values: with hooks, or with drafts."""

from brinejar.drafts import OutsideDraft, ThingDraft
from brinejar.errors import InvalidValue
from brinejar.nodes import is_atom_or_node


class HookCrew:
    """Makes and builds by the rules and hooks of the registry."""

    def __init__(self, outside):
        self._outside_hook = outside

    def thing_of(self, known, arguments):
        """Return what the brand makes of the arguments."""
        return known.make_thing(arguments)

    def give_state(self, known, thing, state):
        """Give a thing its state."""
        known.build_thing(thing, state)

    def outside_of(self, label):
        """Return the value that the label stands for."""
        value = self._outside_hook(label)
        if not is_atom_or_node(value):
            raise InvalidValue(value)
        return value


class DraftCrew:
    """Makes and builds drafts, and calls no hook."""

    def thing_of(self, known, arguments):
        """Return the draft of a thing."""
        return ThingDraft(known.brand, arguments)

    def give_state(self, known, thing, state):
        """Note how a thing is built."""
        thing.buildings.append(known.draft_building(state))

    def outside_of(self, label):
        """Return the draft of an outside value."""
        return OutsideDraft(label)
