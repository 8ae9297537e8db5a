"""Edits of a jar that are made all or not at all."""

from brinejar.errors import InvalidEdit

EDIT_LENGTHS = {"put": 3, "drop": 2, "convert": 2, "undo": 1}


class Batch:
    """Gives a jar to a block; if the block ends with an error, the jar is as it was at its beginning."""

    def __init__(self, jar):
        self._jar = jar
        self._before = None

    def __enter__(self):
        self._before = self._jar.state
        return self._jar

    def __exit__(self, kind, value, trace):
        jar = self._jar
        if kind is not None:
            jar.state = self._before


def batched(jar, *edits):
    """Make edits one after another; after an error the jar is as before."""
    batched_all(jar, edits)


def batched_all(jar, edits):
    """Make the edits in one tuple one after another; after an error the jar is as before."""
    require_edits(edits)
    with Batch(jar):
        for edit in edits:
            make_edit(jar, edit)


def require_edits(edits):
    """Raise InvalidEdit for what is no tuple of edits."""
    if not isinstance(edits, tuple):
        raise InvalidEdit(None)
    for position, edit in enumerate(edits):
        if not is_edit(edit):
            raise InvalidEdit(position)


def is_edit(edit):
    """Tell whether edit is a tuple with the word and the length of an edit."""
    if not isinstance(edit, tuple) or not edit or not isinstance(edit[0], str):
        return False
    return EDIT_LENGTHS.get(edit[0]) == len(edit)


def make_edit(jar, edit):
    """Change a jar by one edit."""
    word, *given = edit
    if word == "put":
        jar.put(*given)
    elif word == "drop":
        jar.drop(*given)
    elif word == "convert":
        jar.convert(*given)
    else:
        jar.undo()
