"""Graphs as texts."""

from brinejar.errors import InvalidText
from brinejar.graphreading import GraphReader
from brinejar.graphs import twin_of
from brinejar.graphwriting import GraphWriting
from brinejar.nodes import require_value


def graph_text(value):
    """Return the graph text of a value."""
    require_value(value)
    return GraphWriting(value).text_of(value)


def read_graph(text):
    """Return a new value that is written so."""
    if not isinstance(text, str):
        raise InvalidText(None)
    # The twin has Packs in the places of what stood for them.
    return twin_of(GraphReader(text).read())
