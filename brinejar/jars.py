"""Jars, which keep streams by names."""

from brinejar.converting import converted
from brinejar.dumping import dump
from brinejar.errors import Full, InvalidName, NoName, NothingToUndo
from brinejar.loading import load
from brinejar.registry import registry_or_empty
from brinejar.streams import require_version

JAR_LIMIT = 50
NAME_LIMIT = 20
NAME_LETTERS = "abcdefghijklmnopqrstuvwxyz"


class JarState:
    """What a jar keeps, and the state before it; no state is ever changed, so jars can share it."""

    def __init__(self, given_version, streams, before):
        self.given_version = given_version
        self.streams = streams
        self.before = before
        self.made = 0 if before is None else before.made + 1


class Jar:
    """Up to 50 streams by names, with all changes since the beginning."""

    def __init__(self, registry=None, *, version=4):
        require_version(version)
        self.state = JarState(version, {}, None)
        self._registry = registry_or_empty(registry)

    def put(self, name, value):
        """Keep the stream of a value, in the place of an older one of this name."""
        require_name(name)
        stream = dump(value, self._registry, version=self.version)
        streams = dict(self.state.streams)
        streams[name] = stream
        if len(streams) > JAR_LIMIT:
            raise Full(JAR_LIMIT)
        self._change(self.version, streams)

    def take(self, name):
        """Return a new value of the stream of this name."""
        return load(self.stream_of(name), self._registry)

    def drop(self, name):
        """Keep the stream of this name no longer."""
        self._require_kept(name)
        self._change(self.version, {other: stream for other, stream in self.state.streams.items() if other != name})

    def convert(self, version):
        """Convert all streams to a version, and use it from now on."""
        require_version(version)
        streams = self.state.streams
        self._change(version, {name: converted(streams[name], version, self._registry) for name in self.names})

    def undo(self):
        """Take back the last change that is not taken back."""
        if self.changes == 0:
            raise NothingToUndo(0)
        self.state = self.state.before

    def stream_of(self, name):
        """Return the stream of this name."""
        self._require_kept(name)
        return self.state.streams[name]

    @property
    def names(self):
        """The ascending tuple of the names."""
        return tuple(sorted(self.state.streams))

    @property
    def version(self):
        """The version in which streams are kept."""
        return self.state.given_version

    @property
    def total(self):
        """The number of octets of all streams."""
        return sum([len(stream) for stream in self.state.streams.values()])

    @property
    def changes(self):
        """The number of changes that can be taken back."""
        return self.state.made

    def twin(self):
        """Return an independent jar with the same streams and changes and the same registry."""
        other = Jar(self._registry, version=self.version)
        other.state = self.state
        return other

    def _change(self, version, streams):
        self.state = JarState(version, streams, self.state)

    def _require_kept(self, name):
        if not isinstance(name, str) or name not in self.state.streams:
            raise NoName(name)


def require_name(name):
    """Raise InvalidName for what is no name of a stream."""
    if not is_name(name):
        raise InvalidName(name)


def is_name(thing):
    """Tell whether thing can be the name of a stream."""
    if not isinstance(thing, str) or not 1 <= len(thing) <= NAME_LIMIT:
        return False
    return all([letter in NAME_LETTERS for letter in thing])
