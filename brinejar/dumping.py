"""Writing a value to a stream."""

from brinejar.sources import HookSource
from brinejar.steps import stream_of, with_least_memo
from brinejar.streams import require_version
from brinejar.writing import Writing


def dump(value, registry=None, *, version=4, outside=None):
    """Return the stream of a value with the least memo."""
    require_version(version)
    writing = Writing(HookSource(registry, outside), version, {})
    writing.write(value)
    writing.emit("stop")
    return stream_of(with_least_memo(writing.steps), version)
