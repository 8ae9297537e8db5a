"""Writing a value to a stream."""

from brinejar.sources import HookSource
from brinejar.steps import stream_of
from brinejar.streams import require_version
from brinejar.writing import dumped_steps


def dump(value, registry=None, *, version=4, outside=None):
    """Return the stream of a value with the least memo."""
    require_version(version)
    return stream_of(dumped_steps(value, HookSource(registry, outside), version), version)
