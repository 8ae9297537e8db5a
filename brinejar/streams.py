"""What counts as a stream and as a version."""

from brinejar.atoms import are_octets, is_integer
from brinejar.errors import InvalidStream, InvalidVersion
from brinejar.opcodes import number_of

STREAM_LIMIT = 50000
LAST_VERSION = 4


def require_stream(stream):
    """Raise InvalidStream for what is no stream."""
    if not are_octets(stream, STREAM_LIMIT):
        raise InvalidStream(stream)


def is_version(thing):
    """Tell whether thing is a version of streams."""
    return is_integer(thing) and 1 <= thing <= LAST_VERSION


def require_version(version):
    """Raise InvalidVersion for what is no version."""
    if not is_version(version):
        raise InvalidVersion(version)


def version_at_start(stream):
    """Return the version of a stream, also of a wrong one."""
    if len(stream) >= 2 and stream[0] == number_of("version") and 2 <= stream[1] <= LAST_VERSION:
        return stream[1]
    return 1
