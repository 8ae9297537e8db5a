"""Points 3, 5, 7 and 9: which objects are the tuples of numbers that streams and Octets consist of."""

import enum
import unittest

from brinejar.atoms import are_octets
from brinejar.checking import check, is_right, traced, version_of
from brinejar.converting import converted, is_canonical
from brinejar.describing import assembled, described
from brinejar.dumping import dump
from brinejar.errors import InvalidNumbers, InvalidRow, InvalidStream
from brinejar.hexes import stream_text
from brinejar.loading import load
from brinejar.nodes import Octets
from brinejar.optimizing import is_optimal, optimized
from brinejar.sessions import Reader
from tests.helpers import NEVER_VALUES, Stranger, caught

# Calls that take a stream; a generator raises when its first item is requested.
TAKERS = (version_of, check, is_right, load, optimized, is_optimal, is_canonical, stream_text,
          lambda stream: converted(stream, 2), lambda stream: Reader().read(stream),
          lambda stream: next(traced(stream)), lambda stream: next(described(stream)))
WRONG_NUMBERS = (-1, 256, True, False, None, "1", "", "text", (1,), (), -256, 10 ** 300, -(10 ** 300), [], [1], {},
                 {1: 2}, 1.0, 160.0, b"a", Octets((1,)), Stranger(), Stranger, print)
NO_TUPLES = ([], [160], (160 for _ in range(1)), None, "", "text", b"\xa0", {160: 160}, 160, True, range(3),
             Octets((160,)), Stranger())
STREAM_LIMIT, NUMBERS_LIMIT = 50000, 2000


class Grade(enum.IntEnum):
    """Integers of a class of its own."""

    LOW = 7
    HIGH = 256


def with_wrong(wrong, count, filling):
    """Yield tuples of so many items with a wrong one in the first, a middle and the last place."""
    for at in (0, count // 2, count - 1):
        yield (filling,) * at + (wrong,) + (filling,) * (count - 1 - at)


class StreamTests(unittest.TestCase):
    def assert_no_stream(self, wrong, takers=TAKERS):
        """Check that this object is in no place taken for a stream."""
        for taker in takers:
            self.assertIs(caught(InvalidStream, taker, wrong).value, wrong)

    def test_wrong_numbers_in_all_places(self):
        for wrong in WRONG_NUMBERS:
            self.assert_no_stream((wrong,))
            for count, takers in ((2, TAKERS), (3, TAKERS), (700, TAKERS), (STREAM_LIMIT, (version_of, check))):
                for filling in (0, 1, 160, 255):
                    for stream in with_wrong(wrong, count, filling):
                        self.assert_no_stream(stream, takers if filling == 1 else takers[:1])

    def test_wrong_numbers_in_right_streams(self):
        head, end = (161, 2, 174), (177, 160)
        right = head + (167, 1, 175) * 100 + end
        self.assertEqual(load(right).parts, ())
        for wrong in WRONG_NUMBERS:
            for at in (0, 1, len(right) // 2, len(right) - 1):
                self.assert_no_stream(right[:at] + (wrong,) + right[at + 1:])

    def test_several_wrong_numbers(self):
        for wrong in ((True,) * 5, (None, "a"), (-1, 256), (1, True, 256), (0, False), (True, True, 1), (1.0, 1)):
            self.assert_no_stream(wrong)
            self.assert_no_stream(wrong * 100)

    def test_what_is_no_tuple(self):
        for wrong in (*NO_TUPLES, *NEVER_VALUES[2:]):
            self.assert_no_stream(wrong)

    def test_50000_octets_and_no_more(self):
        for many in (50001, 50002, 100000):
            self.assert_no_stream((160,) * many)
        self.assertEqual(version_of((161, 2) + (160,) * 49998), 2)
        self.assertEqual(check((161, 2) + (160,) * 49998), (2, "stack"))
        text = (170, 208, 7, 0, 0) + (97,) * 2000 + (175,)
        stream = (161, 2) + text * 24 + (163, 160)
        self.assertEqual((len(stream), check(stream)), (48148, None))
        whole = (161, 2) + (163, 175) * 24998 + (163, 160)
        self.assertEqual((len(whole), load(whole), stream_text(whole)[:6]), (50000, None, "a102a3"))

    def test_an_empty_tuple_is_a_stream(self):
        self.assertEqual((version_of(()), check(()), stream_text(())), (1, (0, "end"), ""))

    def test_every_octet(self):
        for octet in range(256):
            self.assertEqual(stream_text((octet,)), f"{octet:02x}")
        self.assertEqual(version_of(tuple(range(256)) * 195), 1)


class OctetsTests(unittest.TestCase):
    def test_wrong_numbers_in_all_places(self):
        for wrong in WRONG_NUMBERS:
            for count in (1, 2, 3, 40, NUMBERS_LIMIT):
                for filling in (0, 1, 255):
                    for numbers in with_wrong(wrong, count, filling):
                        self.assertIs(caught(InvalidNumbers, Octets, numbers).value, numbers)

    def test_wrong_numbers_in_rows(self):
        for wrong in WRONG_NUMBERS:
            for numbers in with_wrong(wrong, 40, 1):
                self.assertEqual(caught(InvalidRow, assembled, (("octets-line", numbers),), 1).position, 0)
                self.assertEqual(caught(InvalidRow, assembled, (("octets-wide", numbers),), 3).position, 0)

    def test_what_is_no_tuple(self):
        for wrong in NO_TUPLES:
            self.assertIs(caught(InvalidNumbers, Octets, wrong).value, wrong)

    def test_2000_numbers_and_no_more(self):
        for number in (0, 1, 255):
            most = (number,) * NUMBERS_LIMIT
            self.assertIs(Octets(most).numbers, most)
            self.assertEqual(load(dump(Octets(most))).numbers, most)
            for wrong in ((*most, number), most * 30):
                self.assertIs(caught(InvalidNumbers, Octets, wrong).value, wrong)
        self.assertEqual(Octets(()).numbers, ())

    def test_every_number(self):
        for number in range(256):
            self.assertEqual(Octets((number,)).numbers, (number,))
        every = tuple(range(256))
        self.assertEqual(Octets(every[::-1]).numbers, every[::-1])


class BothTests(unittest.TestCase):
    def test_the_limit_counts(self):
        self.assertIs(are_octets((1, 2), 2), True)
        self.assertIs(are_octets((1, 2, 3), 2), False)
        self.assertIs(are_octets((), 0), True)

    def test_integers_of_other_classes(self):
        self.assertIs(are_octets((1, Grade.LOW, 2), 3), True)
        self.assertIs(are_octets((1, Grade.HIGH, 2), 3), False)
        self.assertIs(are_octets((Grade.LOW, True), 3), False)

    def test_each_answer_is_that_of_looking_at_every_number(self):
        def looked_at(thing):
            return all(isinstance(item, int) and not isinstance(item, bool) and 0 <= item < 256 for item in thing)

        items = (*WRONG_NUMBERS, 0, 1, 2, 160, 255)
        for first in items:
            for second in items:
                for third in (0, 1, True, 255, 256, None):
                    things = (first, second, third)
                    self.assertIs(are_octets(things, 3), looked_at(things), things)


if __name__ == "__main__":
    unittest.main()
