"""Streams as texts of digits: stream_text and read_stream."""

import inspect
import unittest

from brinejar.dumping import dump
from brinejar.errors import InvalidStream, InvalidText
from brinejar.hexes import read_stream, stream_text
from brinejar.nodes import Row
from tests.helpers import Stranger, caught
from tests.test_describing import NEVER_STREAMS


class StreamTextTests(unittest.TestCase):
    def test_two_digits_for_each_octet(self):
        for stream, text in (((), ""), ((0,), "00"), ((160,), "a0"), ((161, 2, 182, 160), "a102b6a0"),
                             ((255, 1, 16, 171), "ff0110ab")):
            self.assertEqual(stream_text(stream), text)
            self.assertEqual(read_stream(text), stream)
            self.assertIs(type(stream_text(stream)), str)
            self.assertIs(type(read_stream(text)), tuple)

    def test_every_octet(self):
        stream = tuple(range(256))
        self.assertEqual(stream_text(stream), bytes(stream).hex())
        self.assertEqual(read_stream(bytes(stream).hex()), stream)
        for octet in stream:
            self.assertEqual(stream_text((octet,)), f"{octet:02x}")

    def test_what_dump_returns(self):
        for version in range(1, 5):
            stream = dump(Row("salt", Row(), -1), version=version)
            self.assertEqual(read_stream(stream_text(stream)), stream)

    def test_50000_octets(self):
        stream = (163, 7) * 25000
        self.assertEqual(stream_text(stream), "a307" * 25000)
        self.assertEqual(read_stream("a307" * 25000), stream)

    def test_what_is_no_stream(self):
        for wrong in NEVER_STREAMS:
            self.assertIs(caught(InvalidStream, stream_text, wrong).value, wrong)


class ReadStreamTests(unittest.TestCase):
    def assert_wrong(self, text, offset):
        """Check the offset of a wrong text."""
        error = caught(InvalidText, read_stream, text)
        self.assertEqual(error.offset, offset)

    def test_what_is_no_string(self):
        for wrong in (None, True, 0, 1.5, b"a0", [], (), (160,), ["a0"], {}, Stranger()):
            self.assertIsNone(caught(InvalidText, read_stream, wrong).offset)

    def test_the_first_character_that_is_no_digit(self):
        for text, offset in (("g", 0), (" ", 0), ("0g", 1), ("00g", 2), ("A0", 0), ("aF", 1), ("00 00", 2), ("00\n", 2),
                             ("0x", 1), ("-1", 0), ("a0a0a0 ", 6), ("zz", 0), ("0gg", 1), ("00,01", 2), ("0.", 1),
                             ("`0", 0), ("/0", 0), (":0", 0), ("@0", 0)):
            self.assert_wrong(text, offset)

    def test_an_odd_length(self):
        for text in ("0", "a", "000", "a0a", "0" * 99999, "0" * 100001, "f" * 100003):
            self.assert_wrong(text, len(text))

    def test_more_than_50000_octets(self):
        self.assertEqual(len(read_stream("0" * 100000)), 50000)
        for length in (100002, 100004, 200000):
            self.assert_wrong("0" * length, 100000)

    def test_the_order_of_the_errors(self):
        self.assert_wrong("0" * 100001 + "g", 100001)
        self.assert_wrong("0" * 100002 + "g", 100002)
        self.assert_wrong("0g0", 1)

    def test_as_it_is_written(self):
        for call, parameter in ((stream_text, "stream"), (read_stream, "text")):
            self.assertEqual(call.__module__, "brinejar.hexes")
            self.assertEqual(str(inspect.signature(call)), f"({parameter})")
        self.assertEqual((stream_text(stream=(160,)), read_stream(text="a0")), ("a0", (160,)))


if __name__ == "__main__":
    unittest.main()
