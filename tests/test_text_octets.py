"""Points 4, 8, 9, 19 and 20: the octets of texts in each form of an argument, and streams that are nearly all text."""

import unittest

from brinejar.describing import assembled, described
from brinejar.dumping import dump
from brinejar.errors import TooLong
from brinejar.jars import Jar
from brinejar.loading import load
from brinejar.nodes import Book, Pack, Row, Thing
from brinejar.optimizing import optimized
from brinejar.registry import Registry
from brinejar.sessions import Writer
from tests.helpers import caught
from tests.test_describing import wide
from tests.test_makers import thing_with

VERSIONS = (1, 2, 3, 4)
SIGNS = "\n" + "".join(chr(code) for code in range(32, 127) if code != 37)
LENGTHS = (0, 1, 2, 63, 64, 254, 255, 256, 257, 1999, 2000)
STREAM_LIMIT = 50000


def line_octets(text):
    """Return the octets of a text in a line, character by character."""
    octets = []
    for sign in text:
        octets += {"\n": [92, 110], "\\": [92, 92]}.get(sign) or [ord(sign)]
    return (*octets, 10)


def code_of(name, text):
    """Return the octets of an opcode with a text."""
    signs = tuple(ord(sign) for sign in text)
    if name == "text-short":
        return (171, len(text), *signs)
    if name == "text-wide":
        return (170, *wide(len(text)), *signs)
    return ({"text-line": 169, "outer-line": 201, "class-line": 197}[name], *line_octets(text))


def written(version, text):
    """Return the octets of a text that dump writes in a version."""
    if version == 1:
        return code_of("text-line", text)
    return code_of("text-short" if version >= 3 and len(text) < 256 else "text-wide", text)


def in_version(version, *codes):
    """Return the stream of these opcodes, in frames of at least 64 octets if there are frames."""
    if version < 4:
        return ((161, version) if version > 1 else ()) + sum(codes, ())
    stream, frame = (161, 4), ()
    for number, code in enumerate(codes):
        frame += code
        if len(frame) >= 64 or number == len(codes) - 1:
            stream += (162, *wide(len(frame)), *frame)
            frame = ()
    return stream


def some_texts():
    """Return texts of all characters and of all lengths."""
    texts = [sign * count for sign in SIGNS for count in (1, 2, 3)]
    texts += [first + second + third for first in "\n\\na \"" for second in "\n\\na" for third in "\n\\n~"]
    texts += [SIGNS, SIGNS[::-1], SIGNS * 21]
    texts += [sign * length for sign in "\n\\a~ " for length in LENGTHS]
    return texts + [(SIGNS * 22)[-length:] if length else "" for length in LENGTHS]


class FormTests(unittest.TestCase):
    def test_each_form(self):
        for text in some_texts():
            for name, versions in (("text-line", VERSIONS), ("outer-line", VERSIONS), ("text-wide", (2, 3, 4)),
                                   ("text-short", (3, 4))):
                if name == "text-short" and len(text) > 255:
                    continue
                for version in versions:
                    stream = assembled(((name, text), ("stop", None)), version)
                    self.assertEqual(stream, in_version(version, code_of(name, text), (160,)))
                    self.assertEqual({type(octet) for octet in stream}, {int})
                    self.assertIn((name, text), [row[1:] for row in described(stream)])

    def test_brands(self):
        for brand in ("a", "Z", "a.b_9", "bag", "q" * 40, "a0123456789._"):
            for version in VERSIONS:
                stream = assembled((("class-line", brand), ("stop", None)), version)
                self.assertEqual(stream, in_version(version, code_of("class-line", brand), (160,)))

    def test_what_dump_writes(self):
        for text in some_texts():
            for version in VERSIONS:
                stream = dump(text, version=version)
                self.assertEqual(stream, in_version(version, written(version, text), (160,)))
                self.assertIs(type(stream), tuple)
                self.assertEqual(load(stream), text)
                self.assertEqual(optimized(stream), stream)

    def test_what_writers_and_jars_write(self):
        for text in (*"\n\\a", SIGNS, "\n\\" * 1000, "a" * 255, "a" * 256):
            for version in VERSIONS:
                put = () if len(text) < 4 else (190, 48, 10) if version == 1 else (191, 0) if version == 2 else (193,)
                codes = (written(version, text), put, (160,)) if put else (written(version, text), (160,))
                self.assertEqual(Writer(version=version).write(text), in_version(version, *codes))
                jar = Jar(version=version)
                jar.put("a", text)
                self.assertEqual(jar.stream_of("a"), dump(text, version=version))
                self.assertEqual(jar.take("a"), text)

    def test_keys_labels_and_outside_values(self):
        label = "a\n\\" + SIGNS
        for version in VERSIONS:
            text = written(version, label)
            self.assertEqual(dump(Book.of(((label, None),)), version=version),
                             in_version(version, (185,), text, (163,), (186,), (160,)))
            brand = code_of("class-line", "t") if version < 4 else written(4, "t")
            known = (brand, (198,)) if version == 4 else (brand,)
            pack = ((174,), (177,)) if version == 1 else ((178,),)
            self.assertEqual(dump(thing_with("t", (label, None)), Registry("t"), version=version),
                             in_version(version, *known, *pack, (199,), (185,), text, (163,), (186,), (200,), (160,)))
            outer = (code_of("outer-line", label),) if version == 1 else (text, (202,))
            self.assertEqual(dump(Thing("t"), version=version, outside=lambda node: label),
                             in_version(version, *outer, (160,)))


class LongTests(unittest.TestCase):
    def long_row(self, count):
        """Return a Row of so many texts of 2,000 characters, which are all different."""
        return Row.of(tuple("q" * 1998 + str(10 + number) for number in range(count)))

    def test_long_texts_in_a_row(self):
        for version in VERSIONS:
            texts = [written(version, text) for text in self.long_row(24).parts]
            if version == 1:
                codes = [(182,), *(code for text in texts for code in (text, (183,))), (160,)]
            else:
                codes = [(182,), (174,), *texts, (184,), (160,)]
            self.assertEqual(dump(self.long_row(24), version=version), in_version(version, *codes))

    def test_too_many_long_texts(self):
        for version in VERSIONS:
            for count in (25, 30):
                self.assertEqual(caught(TooLong, dump, self.long_row(count), version=version).limit, 50000)
                self.assertEqual(caught(TooLong, Writer(version=version).write, self.long_row(count)).limit, 50000)
                jar = Jar(None, version=version)
                self.assertEqual(caught(TooLong, jar.put, "b", self.long_row(count)).limit, 50000)
                self.assertEqual((jar.names, jar.changes, jar.total), ((), 0, 0))

    def test_long_rows_are_assembled(self):
        rows = (("row", None), ("mark", None)) + (("text-wide", "m" * 2000),) * 24
        rows += (("append-all", None), ("stop", None))
        stream = assembled(rows, 3)
        self.assertEqual(len(stream), 48126)
        self.assertEqual(stream, in_version(3, (182,), (174,), *[code_of("text-wide", "m" * 2000)] * 24, (184,), (160,)))
        lines = (("text-line", "\\\n" * 1000), ("drop", None)) * 12 + (("none", None), ("stop", None))
        codes = [code_of("text-line", "\\\n" * 1000), (175,)] * 12 + [(163,), (160,)]
        for version in VERSIONS:
            self.assertEqual(assembled(lines, version), in_version(version, *codes))
        short = (("text-short", "s" * 255), ("drop", None)) * 190 + (("none", None), ("stop", None))
        codes = [code_of("text-short", "s" * 255), (175,)] * 190 + [(163,), (160,)]
        for version in (3, 4):
            self.assertEqual(assembled(short, version), in_version(version, *codes))

    def test_exactly_the_longest_stream(self):
        for version in VERSIONS:
            heads = len(dump(Pack(*self.long_row(24).parts), version=version))
            texts = self.long_row(24).parts
            # Each version writes one more text of this length with the octets that are left.
            left = STREAM_LIMIT - heads
            for last in range(max(left - 20, 4), left):
                value = Pack(*texts, "z" * last)
                codes = [(174,), *(written(version, text) for text in value.parts), (177,), (160,)]
                expected = in_version(version, *codes)
                if len(expected) > STREAM_LIMIT:
                    self.assertEqual(caught(TooLong, dump, value, version=version).limit, STREAM_LIMIT)
                    break
                self.assertEqual(dump(value, version=version), expected)
                longest = len(expected)
            self.assertEqual(longest, STREAM_LIMIT)

    def test_frames_of_texts(self):
        for count in (0, 1, 60, 61, 62, 63, 64, 65, 255, 256, 2000):
            value = Pack("a" * count, "b", "c" * count, None, "d" * count)
            codes = [(174,), written(4, "a" * count), written(4, "b"), written(4, "c" * count), (163,),
                     written(4, "d" * count), (177,), (160,)]
            self.assertEqual(dump(value), in_version(4, *codes))
            rows = [("mark", None), ("text-wide", "a" * count), ("none", None), ("text-line", "\n" * count),
                    ("pack", None), ("stop", None)]
            codes = [(174,), code_of("text-wide", "a" * count), (163,), code_of("text-line", "\n" * count), (177,),
                     (160,)]
            self.assertEqual(assembled(tuple(rows), 4), in_version(4, *codes))


if __name__ == "__main__":
    unittest.main()
