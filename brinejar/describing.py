"""Streams as rows of names and arguments, and back."""

from brinejar.arguments import is_argument
from brinejar.encoding import octets_of
from brinejar.errors import InvalidRow
from brinejar.opcodes import opcode_names, since
from brinejar.parsing import Parser
from brinejar.steps import stream_of
from brinejar.streams import LAST_VERSION, is_version, require_stream, require_version


def described(stream):
    """Yield the offset, the name and the argument of each opcode."""
    require_stream(stream)
    parser = Parser(stream)
    while not parser.is_done():
        parser.advance()
        yield parser.offset, parser.name, parser.argument
    parser.require_end()


def assembled(rows, version):
    """Return the stream of the rows with its header and frames, whether it is right or not."""
    if not isinstance(rows, tuple):
        raise InvalidRow(None)
    names = row_names(version)
    for position, row in enumerate(rows):
        if not is_row(row, names):
            raise InvalidRow(position)
    require_version(version)
    return stream_of([("code", octets_of(name, argument)) for name, argument in rows], version)


def row_names(version):
    """Return a dict of the names of the opcodes that rows can have in this version."""
    # A wrong version is an error of its own, which comes later.
    newest = version if is_version(version) else LAST_VERSION
    return {name: True for name in opcode_names() if since(name) <= newest and name not in ("version", "frame")}


def is_row(row, names):
    """Tell whether row is a pair of one of the names and an argument."""
    if not isinstance(row, tuple) or len(row) != 2:
        return False
    name, argument = row
    return isinstance(name, str) and name in names and is_argument(name, argument)
