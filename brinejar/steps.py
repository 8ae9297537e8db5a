"""Steps: what a stream consists of before its memo and its frames are settled.

A step is a pair: "put" or "get" and a number, or "code" and the octets of one opcode.
"""

from brinejar.choices import get_opcode, put_opcode
from brinejar.encoding import octets_of
from brinejar.errors import TooLong
from brinejar.streams import STREAM_LIMIT

FRAME_OCTETS = 64


def with_least_memo(steps):
    """Return the steps without the puts whose number is never got, and with the least numbers."""
    got = {content: True for word, content in steps if word == "get"}
    numbers = {}
    kept = []
    for word, content in steps:
        if word == "code":
            kept.append((word, content))
        elif content in got:
            # The numbers follow the puts, and each get is behind its put.
            kept.append((word, numbers.setdefault(content, len(numbers))))
    return kept


def stream_of(steps, version):
    """Return the stream with its header and frames."""
    pieces = pieces_of(steps, version)
    if sum([len(piece) for piece in pieces]) > STREAM_LIMIT:
        raise TooLong(STREAM_LIMIT)
    return joined(pieces)


def unlimited_stream_of(steps, version):
    """Return the octets with their header and frames, also if they are too many for a stream."""
    return joined(pieces_of(steps, version))


def joined(pieces):
    """Return the tuple of the octets of all pieces."""
    octets = []
    for piece in pieces:
        octets.extend(piece)
    return tuple(octets)


def pieces_of(steps, version):
    """Return the list of the octets of the header and of each opcode, those that begin frames among them."""
    codes = [step_octets(word, content, version) for word, content in steps]
    pieces = codes if version < 4 else framed(codes)
    if version == 1:
        return pieces
    return [octets_of("version", version), *pieces]


def step_octets(word, content, version):
    """Return the octets of one step."""
    if word == "put":
        return put_octets(version, content)
    if word == "get":
        return octets_of(get_opcode(version, content), content)
    return content


def put_octets(version, number):
    """Return the octets of a put."""
    return octets_of(put_opcode(version, number), number)


def framed(codes):
    """Return the octets of opcodes with the octets of a frame opcode in front of each frame."""
    pieces = []
    frame = []
    length = 0
    for code in codes:
        frame.append(code)
        length += len(code)
        if length >= FRAME_OCTETS:
            pieces.extend([octets_of("frame", length), *frame])
            frame = []
            length = 0
    if frame:
        pieces.extend([octets_of("frame", length), *frame])
    return pieces
