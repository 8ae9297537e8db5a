"""Writing graph texts."""

from brinejar.errors import TooDeep
from brinejar.graphs import nodes_of
from brinejar.nodes import Node
from brinejar.signs import escaped, hex_text

# How many nodes may be open at once in a graph text.
OPEN_LIMIT = 50


class GraphWriting:
    """Writes the values of one graph, and numbers the nodes that occur more than once."""

    def __init__(self, value):
        self._shared = shared_nodes(value)
        self._numbers = {}
        self._depth = 0

    def text_of(self, value):
        """Return the text of a value."""
        if not isinstance(value, Node):
            return atom_text(value)
        if value in self._numbers:
            return f"#{self._numbers[value]}"
        return self._first_text(value)

    def _first_text(self, node):
        if self._depth == OPEN_LIMIT:
            raise TooDeep(OPEN_LIMIT)
        self._depth += 1
        # The node has its number before its contents are written.
        start = self._start_of(node)
        contents = self._contents_text(node)
        self._depth -= 1
        return start + contents

    def _start_of(self, node):
        if node not in self._shared:
            return ""
        number = len(self._numbers)
        self._numbers[node] = number
        return f"#{number}="

    def _contents_text(self, node):
        shape = node.shape
        if shape == "octets":
            return f"<{hex_text(node.numbers)}>"
        if shape == "pack":
            return self._pack_text(node.parts)
        if shape == "row":
            return f"[{self._list_text(node.parts)}]"
        if shape == "book":
            return in_braces("", self._pairs_text(node.pairs))
        if shape == "bag":
            return in_braces("bag", self._list_text(node.members))
        return in_braces(node.brand, self._pairs_text(node.fields))

    def _pack_text(self, parts):
        comma = "," if len(parts) == 1 else ""
        return f"({self._list_text(parts)}{comma})"

    def _list_text(self, values):
        return ", ".join([self.text_of(value) for value in values])

    def _pairs_text(self, pairs):
        return ", ".join([f"{atom_text(key)}: {self.text_of(value)}" for key, value in pairs])


def shared_nodes(value):
    """Return a dict of the nodes that occur more than once in the graph of a value."""
    places = {value: 1} if isinstance(value, Node) else {}
    for node in nodes_of(value):
        for child in node.children():
            if isinstance(child, Node):
                places[child] = places.get(child, 0) + 1
    return {node: True for node, count in places.items() if count > 1}


def in_braces(start, contents):
    """Return the contents in braces behind their start."""
    return start + "{" + contents + "}"


def atom_text(atom):
    """Return the text of an atom."""
    return quoted(atom) if isinstance(atom, str) else str(atom)


def quoted(text):
    """Return a text with escapes between double quotes."""
    return "\"" + escaped(text).replace("\"", "\\\"") + "\""
