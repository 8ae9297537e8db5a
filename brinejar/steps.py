"""Steps: what a stream consists of before its memo and its frames are settled.

A step is a pair: "put" or "get" and a number, or "code" and the octets of one opcode.
"""

from brinejar.choices import get_opcode, put_opcode
from brinejar.encoding import octets_of
from brinejar.errors import TooLong
from brinejar.streams import STREAM_LIMIT

FRAME_OCTETS = 64


def with_least_memo(steps):
    """Return the steps without the puts whose number is never got, and with the least numbers."""
    got = {content: True for word, content in steps if word == "get"}
    numbers = {}
    kept = []
    for word, content in steps:
        if word == "code":
            kept.append((word, content))
        elif content in got:
            # The numbers follow the puts, and each get is behind its put.
            kept.append((word, numbers.setdefault(content, len(numbers))))
    return kept


def stream_of(steps, version):
    """Return the stream with its header and frames."""
    stream = unlimited_stream_of(steps, version)
    if len(stream) > STREAM_LIMIT:
        raise TooLong(STREAM_LIMIT)
    return stream


def unlimited_stream_of(steps, version):
    """Return the octets with their header and frames, also if they are too many for a stream."""
    codes = [step_octets(word, content, version) for word, content in steps]
    pieces = codes if version < 4 else framed(codes)
    if version > 1:
        pieces = [octets_of("version", version), *pieces]
    return tuple([octet for piece in pieces for octet in piece])


def step_octets(word, content, version):
    """Return the octets of one step."""
    if word == "put":
        return put_octets(version, content)
    if word == "get":
        return octets_of(get_opcode(version, content), content)
    return content


def put_octets(version, number):
    """Return the octets of a put."""
    return octets_of(put_opcode(version, number), number)


def framed(codes):
    """Return the octets of opcodes with the octets of a frame opcode in front of each frame."""
    pieces = []
    frame = []
    for code in codes:
        frame.extend(list(code))
        if len(frame) >= FRAME_OCTETS:
            pieces.extend([octets_of("frame", len(frame)), frame])
            frame = []
    if frame:
        pieces.extend([octets_of("frame", len(frame)), frame])
    return pieces
