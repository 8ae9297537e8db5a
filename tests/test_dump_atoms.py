"""Points 9 and 19 in dump: the opcodes of atoms and of Octets, and their octets."""

import unittest

from brinejar.dumping import dump
from brinejar.nodes import Octets, Row
from tests.helpers import EDGE_INTEGERS
from tests.listing import listing, plain

MOST = 10 ** 300 - 1


def all_versions(value):
    """Return the listings of a value in versions 1 to 4, without header, frames and stop."""
    return [plain(dump(value, version=version)) for version in range(1, 5)]


def signed_octets(integer):
    """Return the octets of an integer in the least number of octets, by trying."""
    for count in range(1, 256):
        try:
            return tuple(integer.to_bytes(count, "little", signed=True))
        except OverflowError:
            pass
    raise AssertionError(integer)


class AtomTests(unittest.TestCase):
    def test_plain_atoms(self):
        for value, name in ((None, "none"), (False, "false"), (True, "true")):
            self.assertEqual(all_versions(value), [name] * 4)

    def test_octets_of_small_streams(self):
        self.assertEqual(dump(None, version=1), (163, 160))
        self.assertEqual(dump(False, version=2), (161, 2, 164, 160))
        self.assertEqual(dump(True, version=3), (161, 3, 165, 160))
        self.assertEqual(dump(True), (161, 4, 162, 2, 0, 0, 0, 165, 160))
        self.assertEqual(dump(-7, version=1), (166, 45, 55, 10, 160))
        self.assertEqual(dump(7, version=2), (161, 2, 167, 7, 160))
        self.assertEqual(dump(-1, version=2), (161, 2, 168, 1, 255, 160))

    def test_a_stream_is_a_tuple_of_integers(self):
        for version in range(1, 5):
            stream = dump(Row(True, 300, "salt", Octets((1,))), version=version)
            self.assertIs(type(stream), tuple)
            self.assertEqual({type(octet) for octet in stream}, {int})

    def test_integers_of_version_1(self):
        for integer in EDGE_INTEGERS + (10, -10, 255, 256, 1000, -1000):
            codes = tuple(str(integer).encode())
            self.assertEqual(dump(integer, version=1), (166, *codes, 10, 160))

    def test_integers_of_later_versions(self):
        edges = [1 << bits for bits in (7, 8, 15, 16, 23, 24, 31, 32, 63, 64, 127, 128, 500)]
        around = [sign * edge + step for edge in edges for sign in (1, -1) for step in (-1, 0, 1)]
        for integer in (*EDGE_INTEGERS, *around):
            for version in (2, 3):
                expected = (161, version, 168, len(signed_octets(integer)), *signed_octets(integer), 160)
                if 0 <= integer <= 255:
                    expected = (161, version, 167, integer, 160)
                self.assertEqual(dump(integer, version=version), expected, integer)

    def test_the_edges_of_integer_octet(self):
        self.assertEqual(all_versions(0), ["integer-line 0"] + ["integer-octet 0"] * 3)
        self.assertEqual(all_versions(255), ["integer-line 255"] + ["integer-octet 255"] * 3)
        self.assertEqual(all_versions(256), ["integer-line 256"] + ["integer-counted 256/2"] * 3)
        self.assertEqual(all_versions(-1), ["integer-line -1"] + ["integer-counted -1/1"] * 3)

    def test_how_many_octets(self):
        counts = {-128: 1, -129: 2, 256: 2, 32767: 2, 32768: 3, -32768: 2, -32769: 3, MOST: 125, -MOST: 125}
        for integer, count in counts.items():
            self.assertEqual(all_versions(integer)[1:], [f"integer-counted {integer}/{count}"] * 3)


class TextTests(unittest.TestCase):
    def test_the_opcodes_of_texts(self):
        self.assertEqual(all_versions("ab"), ["text-line ab", "text-wide 'ab'", "text-short 'ab'", "text-short 'ab'"])
        self.assertEqual(all_versions(""), ["text-line", "text-wide ''", "text-short ''", "text-short ''"])

    def test_the_edges_of_text_short(self):
        for length, name in ((254, "text-short"), (255, "text-short"), (256, "text-wide"), (2000, "text-wide")):
            text = "a" * length
            later = [f"text-wide '{text}'", f"{name} '{text}'", f"{name} '{text}'"]
            self.assertEqual(all_versions(text), [f"text-line {text}", *later])

    def test_octets_of_texts(self):
        self.assertEqual(dump("a~ ", version=1), (169, 97, 126, 32, 10, 160))
        self.assertEqual(dump("a\n\\", version=2), (161, 2, 170, 3, 0, 0, 0, 97, 10, 92, 160))
        self.assertEqual(dump("a\n\\", version=3), (161, 3, 171, 3, 97, 10, 92, 160))
        self.assertEqual(dump("ab" * 300, version=3)[:7], (161, 3, 170, 88, 2, 0, 0))

    def test_escapes_of_lines(self):
        self.assertEqual(dump("\n", version=1), (169, 92, 110, 10, 160))
        self.assertEqual(dump("\\", version=1), (169, 92, 92, 10, 160))
        self.assertEqual(plain(dump("\\n\n\\\\\n\n", version=1)), "text-line \\\\n\\n\\\\\\\\\\n\\n")
        self.assertEqual(len(dump("\\" * 2000, version=1)), 4003)

    def test_every_character(self):
        signs = "\n" + "".join(chr(code) for code in range(32, 127) if code != 37)
        self.assertEqual(dump(signs, version=3), (161, 3, 171, 95, *signs.encode(), 160))


class OctetsTests(unittest.TestCase):
    def test_the_opcodes_of_octets(self):
        node = Octets((0, 10, 171, 255))
        lines = ["octets-line 000aabff"] * 2 + ["octets-wide 000aabff"] * 2
        self.assertEqual(all_versions(node), lines)
        self.assertEqual(all_versions(Octets()), ["octets-line"] * 2 + ["octets-wide"] * 2)

    def test_octets_of_octets(self):
        self.assertEqual(dump(Octets((7, 250)), version=2), (161, 2, 172, 48, 55, 102, 97, 10, 160))
        self.assertEqual(dump(Octets((7, 250)), version=3), (161, 3, 173, 2, 0, 0, 0, 7, 250, 160))
        most = tuple(number % 256 for number in range(2000))
        self.assertEqual(dump(Octets(most), version=3), (161, 3, 173, 208, 7, 0, 0, *most, 160))


class NumberTests(unittest.TestCase):
    def row_of_rows(self, count):
        """Return a Row of so many Rows, each of them twice."""
        rows = [Row() for _ in range(count)]
        return Row(*rows, *rows)

    def test_the_opcodes_of_puts_and_gets(self):
        row = Row()
        put_get = [plain(dump(Row(row, row), version=version)) for version in range(1, 5)]
        self.assertEqual(put_get, [
            "row; row; put-line 0; append; get-line 0; append",
            "row; mark; row; put-octet 0; get-octet 0; append-all",
            "row; mark; row; put-next; get-octet 0; append-all",
            "row; mark; row; put-next; get-octet 0; append-all",
        ])

    def test_the_edges_of_the_octet(self):
        words = [listing(dump(self.row_of_rows(258), version=version)).split("; ") for version in range(1, 4)]
        for number in (0, 1, 254, 255, 256, 257):
            self.assertEqual(words[0].count(f"put-line {number}"), 1)
            self.assertEqual(words[0].count(f"get-line {number}"), 1)
            short, wide = (1, 0) if number < 256 else (0, 1)
            self.assertEqual(words[1].count(f"put-octet {number}"), short)
            self.assertEqual(words[1].count(f"put-wide {number}"), wide)
            for listed in words[1:]:
                self.assertEqual(listed.count(f"get-octet {number}"), short)
                self.assertEqual(listed.count(f"get-wide {number}"), wide)
        self.assertEqual(words[2].count("put-next"), 258)

    def test_octets_of_wide_numbers(self):
        stream = dump(self.row_of_rows(258), version=2)
        self.assertEqual(stream[-12:], (196, 0, 1, 0, 0, 196, 1, 1, 0, 0, 184, 160))
        self.assertIn((192, 1, 1, 0, 0), [stream[at:at + 5] for at in range(len(stream))])


if __name__ == "__main__":
    unittest.main()
