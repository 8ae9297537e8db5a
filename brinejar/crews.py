"""Who changes nodes for the machine, makes and builds things and knows outside values: with hooks, or with drafts."""

from brinejar.drafts import OutsideDraft, ThingDraft, shorten_draft
from brinejar.errors import InvalidValue
from brinejar.nodes import extend_node, is_atom_or_node


class HookCrew:
    """Makes and builds by the rules and hooks of the registry."""

    def __init__(self, outside):
        self._outside_hook = outside

    def fill(self, node, contents):
        """Add contents to a Row, a Book or a Bag."""
        extend_node(node, contents)

    def thing_of(self, known, arguments):
        """Return what the brand makes of the arguments."""
        return known.make_thing(arguments)

    def give_state(self, known, thing, state):
        """Give a thing its state."""
        known.build_thing(thing, state)

    def outside_of(self, label):
        """Return the value that the label stands for."""
        value = self._outside_hook(label)
        if not is_atom_or_node(value):
            raise InvalidValue(value)
        return value


class LeadingCrew(HookCrew):
    """Has drafts follow the values: what was done to a value is done to its draft at once.

    So drafts know what their values have, also if a hook ends the run.
    """

    def __init__(self, outside, additions):
        super().__init__(outside)
        # What the dry run has done and taken back; the run changes the same nodes in the same order.
        self._additions = additions
        self._followed = 0

    def fill(self, node, contents):
        """Add contents to a Row, a Book or a Bag, and to its draft."""
        extend_node(node, contents)
        draft, added = self._next_addition()
        extend_node(draft, added)

    def give_state(self, known, thing, state):
        """Give a thing its state, and note in its draft how it was built."""
        known.build_thing(thing, state)
        draft, buildings = self._next_addition()
        draft.buildings.extend(buildings)

    def _next_addition(self):
        self._followed += 1
        return self._additions[self._followed - 1]


class DraftCrew:
    """Changes, makes and builds drafts, and calls no hook."""

    def fill(self, draft, contents):
        """Add contents to the draft of a Row, a Book or a Bag."""
        extend_node(draft, contents)

    def thing_of(self, known, arguments):
        """Return the draft of a thing."""
        return ThingDraft(known.brand, arguments)

    def give_state(self, known, thing, state):
        """Note how a thing is built."""
        thing.buildings.append(known.draft_building(state))

    def outside_of(self, label):
        """Return the draft of an outside value."""
        return OutsideDraft(label)


class NotingCrew(DraftCrew):
    """Notes what it adds to drafts, so that it can be taken back."""

    def __init__(self):
        # Pairs of a draft and what was added to it.
        self.additions = []

    def fill(self, draft, contents):
        """Add contents to the draft of a Row, a Book or a Bag."""
        extend_node(draft, contents)
        self.additions.append((draft, contents))

    def give_state(self, known, thing, state):
        """Note how a thing is built."""
        super().give_state(known, thing, state)
        self.additions.append((thing, thing.buildings[-1:]))

    def take_back(self):
        """Leave all drafts as they were."""
        for draft, contents in self.additions[::-1]:
            shorten_draft(draft, contents)
