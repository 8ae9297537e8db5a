"""A desk: commands about the streams in a jar, and their answers."""

from brinejar.checking import check
from brinejar.errors import BrandTaken, Full, InvalidBrand, InvalidName, InvalidText, NoName, NothingToUndo
from brinejar.errors import Refused, TooDeep, TooLong, UnknownBrand
from brinejar.graphs import same_graph
from brinejar.hexes import read_stream, stream_text
from brinejar.jars import Jar, require_name
from brinejar.loading import load
from brinejar.notation import graph_text, read_graph
from brinejar.registry import Registry

# How many words each command has, its own name included.
WORD_COUNTS = {
    "allow": 2, "put": 3, "show": 2, "drop": 2, "convert": 2, "undo": 1,
    "hex": 2, "same": 3, "names": 1, "total": 1, "check": 2, "load": 3,
}
# The last word of these is all the rest of the command.
REST_COMMANDS = ("put", "check", "load")
VERSIONS = {"1": 1, "2": 2, "3": 3, "4": 4}


class Desk:
    """A registry and a jar, both empty at first, and the commands that change them."""

    def __init__(self):
        self._registry = Registry()
        self._jar = Jar(self._registry)
        self._actions = {
            "allow": self._allow, "put": self._put, "show": self._show, "drop": self._drop, "convert": self._convert,
            "undo": self._undo, "hex": self._hex, "same": self._same, "names": self._names, "total": self._total,
            "check": self._check, "load": self._load,
        }

    def execute(self, command):
        """Return the answer to a command."""
        words = words_of(command)
        if words is None:
            return "bad command"
        try:
            return self._answer(words)
        except InvalidText as wrong:
            kind = "graph" if words[0] == "put" else "hex"
            return f"bad {kind} {wrong.offset}"

    def execute_all(self, *commands):
        """Execute each command when its answer is requested."""
        for command in commands:
            yield self.execute(command)

    def jar_twin(self):
        """Return a twin of the jar."""
        return self._jar.twin()

    def _answer(self, words):
        word, *given = words
        action = self._actions[word]
        try:
            return action(*given)
        except InvalidName:
            return "bad name"
        except NoName:
            return "no name"
        except InvalidBrand:
            return "bad brand"
        except BrandTaken:
            return "brand taken"
        except Refused as wrong:
            return f"refused {wrong.offset} {wrong.reason}"
        except UnknownBrand:
            return "unknown brand"
        except TooDeep:
            return "too deep"
        except TooLong:
            return "too long"
        except Full:
            return "full"
        except NothingToUndo:
            return "nothing to undo"

    def _allow(self, brand):
        self._registry.allow(brand)
        return "done"

    def _put(self, name, text):
        require_name(name)
        self._jar.put(name, read_graph(text))
        return "done"

    def _load(self, name, text):
        require_name(name)
        self._jar.put(name, load(read_stream(text), self._registry))
        return "done"

    def _drop(self, name):
        self._jar.drop(name)
        return "done"

    def _convert(self, word):
        self._jar.convert(VERSIONS[word])
        return "done"

    def _undo(self):
        self._jar.undo()
        return "done"

    def _show(self, name):
        return graph_text(self._jar.take(name))

    def _hex(self, name):
        return stream_text(self._jar.stream_of(name))

    def _same(self, name, other):
        return "yes" if same_graph(self._jar.take(name), self._jar.take(other)) else "no"

    def _names(self):
        return " ".join(self._jar.names) if self._jar.names else "none"

    def _total(self):
        return str(self._jar.total)

    def _check(self, text):
        found = check(read_stream(text), self._registry)
        if found is None:
            return "right"
        offset, reason = found
        return f"{offset} {reason}"


def words_of(command):
    """Return the list of the words of a command, or None if it is a wrong one."""
    if not isinstance(command, str):
        return None
    name = command.partition(" ")[0]
    if name not in WORD_COUNTS:
        return None
    has_rest = name in REST_COMMANDS
    words = command.split(" ", WORD_COUNTS[name] - 1) if has_rest else command.split(" ")
    if len(words) != WORD_COUNTS[name] or "" in (words[:-1] if has_rest else words):
        return None
    if name == "convert" and words[1] not in VERSIONS:
        return None
    return words
