"""Reading a stream opcode by opcode, without running it."""

from brinejar.arguments import argument_of, natural_of
from brinejar.encoding import WIDE_OCTETS
from brinejar.errors import Refused
from brinejar.opcodes import OPCODES, number_of
from brinejar.signs import NEWLINE
from brinejar.streams import version_at_start


class Parser:
    """The opcode that was read last: its offset, its name, its argument and the offset behind it."""

    def __init__(self, stream):
        self.offset = 0
        self.name = ""
        self.argument = None
        self.end = 0
        self._stream = stream
        # With one more octet 10 each line has an end, be it too late.
        self._lines = (*stream, NEWLINE)
        self._given_version = version_at_start(stream)
        self._frame_end = 0

    def advance(self):
        """Read the next opcode."""
        self.offset = self.end
        if self.offset == len(self._stream):
            raise Refused(self.offset, "end")
        if self._given_version == 4:
            self._require_place()
        self.name, form = self._name_and_form()
        self.end = self.offset + 1
        self.argument = None
        if form != "none":
            self._read_argument(form)
        if self._given_version == 4:
            self._pass_frame_or_stop()

    def octets(self):
        """Return the octets of the opcode with its argument."""
        return self._stream[self.offset:self.end]

    def is_done(self):
        """Tell whether a stop was read."""
        return self.name == "stop"

    def require_end(self):
        """Raise Refused if an octet follows the stop."""
        if self.end < len(self._stream):
            raise Refused(self.end, "rest")

    def _is_framed(self):
        return self.offset < self._frame_end

    def _require_place(self):
        """Refuse a frame that lies in a frame, and another opcode that lies in none."""
        is_frame = self._stream[self.offset] == number_of("frame")
        if is_frame == self._is_framed() and self.offset > 0:
            raise Refused(self.offset, "frame")

    def _pass_frame_or_stop(self):
        """Note how far a frame goes, and refuse a stop that is not the end of one."""
        if self.name == "frame":
            self._frame_end = self.end + self.argument
        elif self.name == "stop" and self.end != self._frame_end:
            raise Refused(self.offset, "frame")

    def _name_and_form(self):
        """Return the name of the opcode and the form of its argument."""
        octet = self._stream[self.offset]
        if octet not in OPCODES:
            raise Refused(self.offset, "opcode")
        name, form, since = OPCODES[octet]
        # At the beginning `version` is known in any case, and nowhere else.
        is_known = self.offset == 0 if name == "version" else since <= self._given_version
        if not is_known:
            raise Refused(self.offset, "opcode")
        return name, form

    def _read_argument(self, form):
        start, end = self._bounds_of_content(form)
        self.argument = argument_of(self.name, self._stream[start:end])
        if self.argument is None:
            raise Refused(self.offset, "argument")

    def _bounds_of_content(self, form):
        """Return where the octets of the argument begin and end, and go on behind the argument."""
        if form == "line":
            return self._bounds_of_line()
        if form == "counted":
            count = natural_of(self._taken(1))
        elif form == "wide-counted":
            count = natural_of(self._taken(WIDE_OCTETS))
        else:
            count = 1 if form == "octet" else WIDE_OCTETS
        self._pass_octets(count)
        return self.end - count, self.end

    def _bounds_of_line(self):
        start = self.end
        newline = self._lines.index(NEWLINE, start)
        self._pass_octets(newline + 1 - start)
        return start, newline

    def _taken(self, count):
        """Return the next octets of the argument, and go on behind them."""
        start = self.end
        self._pass_octets(count)
        return self._stream[start:self.end]

    def _pass_octets(self, count):
        """Go on behind the next octets of the argument."""
        end, length = self.end + count, len(self._stream)
        if self._is_framed() and self._frame_end <= length:
            if end > self._frame_end:
                raise Refused(self.offset, "frame")
        elif end > length:
            raise Refused(self.offset, "end")
        self.end = end
