"""Reading a stream opcode by opcode, without running it."""

from brinejar.arguments import argument_of, natural_of
from brinejar.encoding import WIDE_OCTETS
from brinejar.errors import Refused
from brinejar.opcodes import form_of, is_opcode_number, name_of, number_of, since
from brinejar.signs import NEWLINE
from brinejar.streams import version_at_start


class Parser:
    """The opcode that was read last: its offset, its name, its argument and the offset behind it."""

    def __init__(self, stream):
        self.offset = 0
        self.name = ""
        self.argument = None
        self.end = 0
        self._stream = stream
        # With one more octet 10 each line has an end, be it too late.
        self._lines = (*stream, NEWLINE)
        self._given_version = version_at_start(stream)
        self._frame_end = 0

    def advance(self):
        """Read the next opcode."""
        self.offset = self.end
        self._require_place()
        self._require_opcode()
        self.name = name_of(self._stream[self.offset])
        self.argument = None
        self.end = self.offset + 1
        if form_of(self.name) != "none":
            self._read_argument()
        if self.name == "frame":
            self._frame_end = self.end + self.argument
        if self.name == "stop" and self._given_version == 4:
            self._require(self.end == self._frame_end, "frame")

    def octets(self):
        """Return the octets of the opcode with its argument."""
        return self._stream[self.offset:self.end]

    def is_done(self):
        """Tell whether a stop was read."""
        return self.name == "stop"

    def require_end(self):
        """Raise Refused if an octet follows the stop."""
        if self.end < len(self._stream):
            raise Refused(self.end, "rest")

    def _require(self, holds, reason):
        if not holds:
            raise Refused(self.offset, reason)

    def _is_framed(self):
        return self.offset < self._frame_end

    def _require_place(self):
        self._require(self.offset < len(self._stream), "end")
        if self._given_version == 4 and self.offset > 0:
            is_frame = self._stream[self.offset] == number_of("frame")
            self._require(is_frame != self._is_framed(), "frame")

    def _require_opcode(self):
        number = self._stream[self.offset]
        self._require(is_opcode_number(number), "opcode")
        name = name_of(number)
        if name == "version":
            self._require(self.offset == 0, "opcode")
        else:
            self._require(since(name) <= self._given_version, "opcode")

    def _read_argument(self):
        start, end = self._bounds_of_content()
        self.argument = argument_of(self.name, self._stream[start:end])
        self._require(self.argument is not None, "argument")

    def _bounds_of_content(self):
        """Return where the octets of the argument begin and end, and go on behind the argument."""
        form = form_of(self.name)
        if form == "line":
            return self._bounds_of_line()
        if form == "counted":
            count = natural_of(self._taken(1))
        elif form == "wide-counted":
            count = natural_of(self._taken(WIDE_OCTETS))
        else:
            count = 1 if form == "octet" else WIDE_OCTETS
        self._taken(count)
        return self.end - count, self.end

    def _bounds_of_line(self):
        start = self.end
        newline = self._lines.index(NEWLINE, start)
        self._taken(newline + 1 - start)
        return start, newline

    def _taken(self, count):
        """Return the next octets of the argument, and go on behind them."""
        start = self.end
        self._require_octets(start + count)
        self.end = start + count
        return self._stream[start:self.end]

    def _require_octets(self, end):
        length = len(self._stream)
        if self._is_framed() and self._frame_end <= length:
            self._require(end <= self._frame_end, "frame")
        else:
            self._require(end <= length, "end")
