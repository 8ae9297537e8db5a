"""Streams as texts of two digits for each octet."""

from brinejar.errors import InvalidText
from brinejar.signs import HEX_DIGITS, hex_text, numbers_of
from brinejar.streams import STREAM_LIMIT, require_stream


def stream_text(stream):
    """Return two digits for each octet of a stream."""
    require_stream(stream)
    return hex_text(stream)


def read_stream(text):
    """Return the stream that is written so, whether it is right or not."""
    if not isinstance(text, str):
        raise InvalidText(None)
    rest = text.lstrip(HEX_DIGITS)
    if rest:
        raise InvalidText(len(text) - len(rest))
    if len(text) % 2 == 1:
        raise InvalidText(len(text))
    if len(text) > 2 * STREAM_LIMIT:
        raise InvalidText(2 * STREAM_LIMIT)
    return numbers_of(text)
