"""Where writing learns what it writes of things and of outside values."""

from brinejar.atoms import is_text
from brinejar.drafts import OutsideDraft
from brinejar.errors import InvalidLabel, NotCanonical
from brinejar.registry import registry_or_empty


class HookSource:
    """Asks the registry, and the outside function once for each node."""

    def __init__(self, registry, outside):
        self._registry = registry_or_empty(registry)
        self._outside_hook = outside
        self._labels = {}

    def label_of(self, node):
        """Return the label of an outside value, or None for another node."""
        if self._outside_hook is None:
            return None
        if node not in self._labels:
            self._labels[node] = self._asked_label(node)
        return self._labels[node]

    def take_apart(self, thing):
        """Return the arguments, the state, and the fields that take the place of a state."""
        return self._registry.entry_of(thing.brand).take_apart(thing)

    def _asked_label(self, node):
        label = self._outside_hook(node)
        if label is not None and not is_text(label):
            raise InvalidLabel(label)
        return label


class DraftSource:
    """Looks at what drafts know, and calls no hook."""

    def label_of(self, draft):
        """Return the label of the draft of an outside value, or None for another draft."""
        return draft.label if isinstance(draft, OutsideDraft) else None

    def take_apart(self, draft):
        """Return the arguments, the state, and the fields that take the place of a state."""
        if not draft.buildings:
            return draft.arguments, None, ()
        if len(draft.buildings) > 1:
            # Writing builds a thing once, so no stream of dump gives this draft.
            raise NotCanonical(0)
        state, fields = draft.buildings[0]
        return draft.arguments, state, fields
