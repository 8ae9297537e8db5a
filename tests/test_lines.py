"""Points 8, 9 and 12: arguments of the kind `line`, where they end and where they do not."""

import unittest

from brinejar.checking import check, traced
from brinejar.describing import described
from brinejar.errors import Refused
from brinejar.loading import load
from brinejar.opcodes import number_of
from tests.helpers import caught
from tests.listing import TABLE
from tests.refusing import never_called
from tests.test_describing import ARGUMENTS, WRONG_OCTETS, codes, wide

LINES = tuple(name for name, form, _ in TABLE.values() if form == "line")
# Lines of no octets are right for these.
EMPTY = {"text-line": "", "octets-line": (), "outer-line": ""}
HEADS = {1: (), 2: (161, 2), 3: (161, 3)}


def framed(length, *octets):
    """Return a stream of version 4 with one frame, which has this length, and these octets behind its opcode."""
    return (161, 4, 162, *wide(length), *octets)


class LineTests(unittest.TestCase):
    def test_the_seven_lines(self):
        self.assertEqual(LINES, ("integer-line", "text-line", "octets-line", "put-line", "get-line", "class-line",
                                 "outer-line"))

    def assert_refused(self, stream, offset, reason):
        """Check that all tell the same, also if further octets follow where they do not count."""
        for call in (lambda: list(described(stream)), lambda: load(stream, outside=never_called),
                     lambda: list(traced(stream, has_outside=True))):
            error = caught(Refused, call)
            self.assertEqual((error.offset, error.reason), (offset, reason), stream[:20])
        self.assertEqual(check(stream, has_outside=True), (offset, reason))

    def assert_described(self, stream, offset, name, argument):
        """Check that the opcode at an offset has this argument, whatever is wrong behind it."""
        rows = []
        try:
            for row in described(stream):
                rows.append(row)
        except Refused:
            pass
        self.assertIn((offset, name, argument), rows)

    def test_a_line_of_no_octets(self):
        for name in LINES:
            code = (number_of(name), 10)
            for head in (*HEADS.values(), framed(3), framed(2)):
                if name in EMPTY:
                    self.assert_described((*head, *code, 160), len(head), name, EMPTY[name])
                else:
                    self.assert_refused((*head, *code, 160), len(head), "argument")
                    self.assert_refused((*head, *code), len(head), "argument")

    def test_lines_one_behind_the_other(self):
        rows = [(0, "text-line", ""), (2, "text-line", "a"), (5, "outer-line", ""), (7, "text-line", "")]
        stream = (169, 10, 169, 97, 10, 201, 10, 169, 10)
        self.assertEqual(list(described(stream + (160,)))[:4], rows)
        self.assert_described(stream, 7, "text-line", "")
        self.assertEqual(load((174,) + (169, 10) * 20000 + (177, 160)).parts, ("",) * 20000)

    def test_a_line_at_the_end_of_the_stream(self):
        for name in LINES:
            argument, octets = ARGUMENTS[name][-1]
            code = (number_of(name), *octets)
            for head in HEADS.values():
                self.assert_described((*head, *code), len(head), name, argument)
                self.assert_refused((*head, *code[:-1]), len(head), "end")
                self.assert_refused((*head, code[0]), len(head), "end")

    def test_an_earlier_octet_10_does_not_end_a_line(self):
        for name in LINES:
            number = number_of(name)
            self.assert_refused((169, 97, 10, number), 3, "end")
            self.assert_refused((169, 97, 10, number, 97), 3, "end")
            self.assert_refused((161, 2, 167, 10, number, 49), 4, "end")
            self.assert_refused(framed(4, 167, 10, number, 49), 9, "frame")
            self.assert_refused(framed(5, 167, 10, number, 49), 9, "end")

    def test_the_octet_10_behind_the_end_of_the_frame(self):
        for name in LINES:
            _, octets = ARGUMENTS[name][-1]
            code = (number_of(name), *octets)
            for length in {1, 2, len(code) // 2, len(code) - 1}:
                self.assert_refused(framed(length, *code, 160), 7, "frame")
                self.assert_refused(framed(length, *code), 7, "frame")
            self.assert_refused(framed(1, code[0], 10), 7, "frame")
            self.assert_refused(framed(len(code) - 1, *code[:-1], 162, 2, 0, 0, 0, 10, 160), 7, "frame")
            # The octet 10 is the last one of the frame.
            self.assert_described(framed(len(code), *code), 7, name, ARGUMENTS[name][-1][0])

    def test_a_frame_that_ends_exactly_where_the_stream_ends(self):
        for name in LINES:
            for octets in ((), (49,), (97, 98), (48,) * 5000):
                self.assert_refused(framed(1 + len(octets), number_of(name), *octets), 7, "frame")
            self.assert_refused((161, 4, 162, 1, 0, 0, 0, 163, 162, 2, 0, 0, 0, number_of(name), 49), 13, "frame")

    def test_a_frame_that_is_longer_than_the_stream(self):
        for name in LINES:
            for octets in ((), (49,), (97, 98), (48,) * 5000):
                for more in (2, 3, 60000, 2 ** 32 - 1 - len(octets)):
                    self.assert_refused(framed(len(octets) + more, number_of(name), *octets), 7, "end")
            argument, octets = ARGUMENTS[name][-1]
            self.assert_described(framed(len(octets) + 2, number_of(name), *octets), 7, name, argument)

    def test_wrong_lines_are_wrong_only_with_their_end(self):
        for name in LINES:
            for octets in WRONG_OCTETS[name]:
                code = (number_of(name), *octets)
                self.assert_refused(code, 0, "argument")
                self.assert_refused((*code, 163, 10), 0, "argument")
                self.assert_refused(code[:-1], 0, "end")
                self.assert_refused(framed(len(code), *code), 7, "argument")
                self.assert_refused(framed(len(code) - 1, *code), 7, "frame")
                self.assert_refused(framed(len(code), *code[:-1]), 7, "end")

    def test_the_longest_lines(self):
        for text in ("a" * 2000, "\n" * 2000, "\\" * 2000, "a\n\\ ~" * 400):
            line = codes(text.replace("\\", "\\\\").replace("\n", "\\n"))
            self.assertEqual(load((169, *line, 10, 160)), text)
            self.assert_refused((169, *line, 97, 10, 160), 0, "argument")
        self.assertEqual(load((172, *codes("09af" * 1000), 10, 160)).numbers, (9, 175) * 1000)
        self.assertEqual(load((166, *codes("9" * 300), 10, 160)), 10 ** 300 - 1)
        self.assert_refused((169,) + (97,) * 49999, 0, "end")
        self.assert_refused((169,) + (97,) * 49998 + (10,), 0, "argument")

    def test_streams_that_consist_of_lines(self):
        stream = ((169,) + (97,) * 1997 + (10, 175)) * 24 + (169,) + (97,) * 1995 + (10, 175, 163, 160)
        self.assertEqual(len(stream), 50000)
        self.assertIsNone(load(stream))
        self.assertIsNone(check(stream))
        rows = list(described(stream))
        self.assertEqual((rows[0], rows[2], len(rows)),
                         ((0, "text-line", "a" * 1997), (2000, "text-line", "a" * 1997), 52))

    def test_escapes(self):
        for line, text in (("\\n", "\n"), ("\\\\", "\\"), ("\\\\n", "\\n"), ("\\\\\\n", "\\\n"), ("\\n\\\\", "\n\\"),
                           ("\\\\\\\\", "\\\\"), ("n\\nn", "n\nn"), ("\\n\\n", "\n\n"), ("a\\\\b", "a\\b")):
            self.assertEqual(load((169, *codes(line), 10, 160)), text)
        for line in ("\\", "\\\\\\", "\\a", "\\N", "n\\", "\\\\\\a", "\\n\\", "\\\\n\\", "\\ n", "\\\"", "a\\b\\\\",
                     "\\\\\\\\\\"):
            self.assert_refused((169, *codes(line), 10, 160), 0, "argument")

    def test_every_octet_in_a_text(self):
        for code in range(256):
            stream = (169, 97, code, 98, 10, 160)
            if code == 10 or code == 92:
                continue
            if 32 <= code < 127 and code != 37:
                self.assertEqual(load(stream), "a" + chr(code) + "b")
            else:
                self.assert_refused(stream, 0, "argument")


if __name__ == "__main__":
    unittest.main()
