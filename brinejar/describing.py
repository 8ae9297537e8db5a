"""Streams as rows of names and arguments, and back."""

from brinejar.arguments import is_argument
from brinejar.encoding import octets_of
from brinejar.errors import InvalidRow
from brinejar.opcodes import opcode_names, since
from brinejar.parsing import Parser
from brinejar.steps import stream_of
from brinejar.streams import is_version, require_stream, require_version


def described(stream):
    """Yield the offset, the name and the argument of each opcode."""
    require_stream(stream)
    parser = Parser(stream)
    while not parser.is_done():
        parser.advance()
        yield parser.offset, parser.name, parser.argument
    parser.require_end()


def assembled(rows, version):
    """Return the stream of the rows with its header and frames, whether it is right or not."""
    if not isinstance(rows, tuple):
        raise InvalidRow(None)
    for position, row in enumerate(rows):
        if not is_row(row, version):
            raise InvalidRow(position)
    require_version(version)
    return stream_of([("code", octets_of(name, argument)) for name, argument in rows], version)


def is_row(row, version):
    """Tell whether row is a pair of a name and an argument for a stream of this version."""
    if not isinstance(row, tuple) or len(row) != 2:
        return False
    name, argument = row
    return is_row_name(name, version) and is_argument(name, argument)


def is_row_name(name, version):
    """Tell whether name is the name of an opcode that a row can have."""
    if name not in opcode_names() or name in ("version", "frame"):
        return False
    # A wrong version is an error of its own, which comes later.
    return not is_version(version) or since(name) <= version
