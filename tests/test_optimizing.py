"""Point 23: optimized and is_optimal."""

import inspect
import random
import unittest

from brinejar import optimizing
from brinejar.checking import is_right, traced
from brinejar.dumping import dump
from brinejar.errors import InvalidStream, Refused, TooLong
from brinejar.graphs import same_graph
from brinejar.loading import load
from brinejar.nodes import Pack, Row, Thing
from brinejar.optimizing import is_optimal, optimized
from brinejar.registry import Registry
from tests.helpers import caught
from tests.listing import listing
from tests.refusing import hooks, never_called, stream_of_words, versions_of
from tests.test_describing import NEVER_STREAMS, OTHER_OCTETS, NUMBERS, in_version
from tests.test_graphs import samples
from tests.test_round_trips import ATOMS, BRANDS, random_graph

ONE, TEXT = ("integer-line", 1), ("text-line", "salt")


def put(number):
    """Return the row that gives a number in all versions."""
    return "put-line", number


def got(number):
    """Return the row that gets a number in all versions."""
    return "get-line", number


class OptimizingTests(unittest.TestCase):
    def assert_optimized(self, words, expected, versions=None):
        """Check what these opcodes become, in all versions, in words of all versions."""
        for version in versions or versions_of([*words, *expected]):
            stream = stream_of_words(version, *words, "stop")
            result = optimized(stream, hooks())
            self.assertEqual(listing(result), listing(self.numbered(version, *expected, "stop")), (version, words))
            self.assertIs(is_optimal(stream, hooks()), stream == result)
            self.assertTrue(is_right(result, hooks()))
            self.assertEqual(optimized(result, hooks()), result)
            self.assertIs(is_optimal(result, hooks()), True)

    def numbered(self, version, *words):
        """Return the stream in which puts and gets have the opcodes of the version."""
        return stream_of_words(version, *[self.in_opcode_of(version, word) for word in words])

    def in_opcode_of(self, version, word):
        """Return a row with the opcode that the version has for it, if it is a put or a get."""
        if version == 1 or word[0] not in ("put-line", "get-line"):
            return word
        if word[0] == "put-line" and version > 2:
            return "put-next"
        return word[0].replace("line", "octet" if word[1] < 256 else "wide"), word[1]


class MemoTests(OptimizingTests):
    def test_needless_puts_are_left_out(self):
        self.assert_optimized(["row", put(0)], ["row"])
        self.assert_optimized([TEXT, put(7), put(0), put(9999)], [TEXT])
        self.assert_optimized(["row", put(0), "row", put(1), "append"], ["row", "row", "append"])

    def test_the_others_are_numbered_anew(self):
        self.assert_optimized(["row", put(5), got(5), "append"], ["row", put(0), got(0), "append"])
        self.assert_optimized(["row", put(9999), "row", put(3), got(9999), "append", "append", got(3), "drop"],
                              ["row", put(0), "row", put(1), got(0), "append", "append", got(1), "drop"])
        self.assert_optimized(["row", put(0), "row", put(1), "row", put(2), got(2), "append", "append", "append"],
                              ["row", "row", "row", put(0), got(0), "append", "append", "append"])

    def test_a_value_keeps_two_numbers_if_both_are_got(self):
        self.assert_optimized([TEXT, put(4), put(2), got(2), got(4), got(2), "drop", "drop", "drop"],
                              [TEXT, put(0), put(1), got(1), got(0), got(1), "drop", "drop", "drop"])
        self.assert_optimized([TEXT, put(4), put(2), put(8), got(8), got(4), "drop", "drop"],
                              [TEXT, put(0), put(1), got(1), got(0), "drop", "drop"])

    def test_what_was_got_can_have_a_number_too(self):
        self.assert_optimized(["row", put(3), got(3), put(1), "append", got(1), "drop"],
                              ["row", put(0), got(0), put(1), "append", got(1), "drop"])
        self.assert_optimized(["row", put(3), got(3), put(1), "append"], ["row", put(0), got(0), "append"])

    def test_what_is_got_and_dropped_counts(self):
        self.assert_optimized([TEXT, put(6), got(6), "drop"], [TEXT, put(0), got(0), "drop"])

    def test_the_opcodes_of_the_version(self):
        for version in (2, 3, 4):
            for name in ("put-line", "put-octet", "put-wide"):
                for get in ("get-line", "get-octet", "get-wide"):
                    stream = stream_of_words(version, "row", (name, 17), (get, 17), "append", "stop")
                    self.assertEqual(optimized(stream), self.numbered(version, "row", put(0), got(0), "append",
                                                                      "stop"))
        stream = stream_of_words(3, "row", "put-next", ("get-wide", 0), "append", "stop")
        self.assertEqual(optimized(stream), (161, 3, 182, 193, 195, 0, 183, 160))

    def test_put_next_has_the_size_of_the_memo(self):
        words = ["row", put(1), "row", "put-next", "append"]
        self.assertEqual(caught(Refused, optimized, stream_of_words(3, *words, "stop")).reason, "memo")
        self.assert_optimized(["row", put(7), "row", "put-next", got(1), "append", "append"],
                              ["row", "row", put(0), got(0), "append", "append"])

    def test_numbers_of_more_than_one_octet(self):
        many = [word for number in range(258) for word in ("row", put(9000 - number), got(9000 - number), "append",
                                                           "append")]
        new = [word for number in range(258) for word in ("row", put(number), got(number), "append", "append")]
        self.assert_optimized(["row", *many], ["row", *new])
        stream = optimized(stream_of_words(2, "row", *many, "stop"))
        self.assertIn("put-octet 255; get-octet 255; append; append; row; put-wide 256; get-wide 256",
                      listing(stream))

    def test_all_of_random_streams(self):
        chance = random.Random(3)
        for _ in range(200):
            words, numbers = ["row", put(50)], [50]
            for _ in range(chance.randrange(20)):
                number = chance.choice([n for n in range(200) if n not in numbers])
                if chance.randrange(2):
                    words += [chance.choice(["row", TEXT, ("octets-line", (1,))]), put(number), "append"]
                    numbers.append(number)
                else:
                    words += [got(chance.choice(numbers)), "append"]
            used = [word[1] for word in words if word[0] == "get-line"]
            order = [word[1] for word in words if word[0] == "put-line" and word[1] in used]
            expected = [word if word[0] not in ("put-line", "get-line") else (word[0], order.index(word[1]))
                        for word in words if word[0] != "put-line" or word[1] in used]
            self.assert_optimized(words, expected)


class OctetTests(OptimizingTests):
    def assert_kept(self, stream, registry=None, has_outside=False):
        """Check that optimizing changes nothing."""
        self.assertEqual(optimized(stream, registry, has_outside=has_outside), stream)
        self.assertIs(is_optimal(stream, registry, has_outside=has_outside), True)

    def test_other_opcodes_stay_as_they_are(self):
        for name, cases in OTHER_OCTETS.items():
            for _, octets in cases:
                # In version 4 a long opcode would fill a frame of its own.
                for version in (2, 3, 4) if len(octets) < 60 else (2, 3):
                    self.assert_kept(in_version(version, (NUMBERS[name], *octets)))
        words = [("text-line", "a"), ("text-wide", "a"), ("octets-line", (1,)), ("integer-line", 3),
                 ("integer-counted", 3), "drop", "mark", "drop-to-mark", "mark", "pack", "pack-0", "drop", "drop",
                 "drop", "drop", "drop"]
        for version in (2, 3, 4):
            self.assert_kept(stream_of_words(version, *words, "stop"))

    def test_version_and_stop(self):
        for version in range(1, 5):
            stream = optimized(stream_of_words(version, "row", put(0), "stop"))
            self.assertEqual(stream, stream_of_words(version, "row", "stop"))

    def test_frames_are_formed_anew(self):
        words = ["none", "drop"] * 100 + ["none", "stop"]
        body = (163, 175) * 100 + (163, 160)
        expected = stream_of_words(4, *words)
        self.assertEqual(optimized((161, 4, 162, 202, 0, 0, 0) + body), expected)
        single = tuple(octet for code in body for octet in (162, 1, 0, 0, 0, code))
        self.assertEqual(optimized((161, 4) + single), expected)
        self.assertIs(is_optimal((161, 4) + single), False)
        self.assert_kept(expected)
        self.assertEqual([expected[at:at + 3] for at in (2, 71, 140, 209)],
                         [(162, 64, 0), (162, 64, 0), (162, 64, 0), (162, 10, 0)])

    def test_frames_without_the_puts(self):
        words = [word for _ in range(40) for word in ("row", "put-next", "drop")] + ["none", "stop"]
        expected = stream_of_words(4, *[word for word in words if word != "put-next"])
        self.assertEqual(optimized(stream_of_words(4, *words)), expected)
        self.assertEqual((expected[2:4], len(expected)), ((162, 64), 2 + 5 + 64 + 5 + 18))

    def test_a_frame_ends_with_the_opcode_that_fills_it(self):
        words = [("text-short", "a" * 200), "drop", ("text-short", "a" * 61), "drop", "none", "stop"]
        body = stream_of_words(3, *words)[2:]
        stream = optimized((161, 4, 162, *len(body).to_bytes(4, "little"), *body))
        self.assertEqual(listing(stream), f"version 4; frame 202; text-short '{'a' * 200}'; frame 64; drop; "
                                          f"text-short '{'a' * 61}'; frame 3; drop; none; stop")


class FactTests(OptimizingTests):
    def test_what_dump_returns_is_not_changed(self):
        registry = Registry(*BRANDS, "u", "a", "b")
        chance = random.Random(8)
        values = [*samples(), *ATOMS, *[random_graph(chance, chance.randrange(1, 8)) for _ in range(150)]]
        for value in values:
            for version in range(1, 5):
                stream = dump(value, registry, version=version)
                self.assertEqual(optimized(stream, registry), stream)
                self.assertIs(is_optimal(stream, registry), True)

    def test_what_dump_returns_for_outside_values(self):
        def outside(node):
            return "label" if node.shape == "octets" else None

        for version in range(1, 5):
            stream = dump(Row(Row(), *samples()[-3:]), Registry("t", "u", "a", "b"), version=version, outside=outside)
            self.assertIs(is_optimal(stream, Registry("t", "u", "a", "b"), has_outside=True), True)

    def test_it_loads_alike_with_the_same_calls_of_hooks(self):
        calls = []

        def noting(word, answer):
            def hook(*given):
                calls.append((word, *[part if isinstance(part, (str, tuple)) else part.shape for part in given]))
                return answer()
            return hook

        registry = Registry("allowed")
        registry.enter("t", noting("make", lambda: Thing("t")), never_called, takes=1, build=noting("build", Row))
        words = ["row", put(4), ("class-line", "t"), ("outer-line", "x"), "mark", "drop-to-mark", "drop",
                 ("text-line", "name"), put(9), "mark", got(9),
                  "drop-to-mark", "pack-1", put(3), "make", put(2), got(4), "build", got(9), "build", "append",
                  ("outer-line", "y"), "append", got(2), "append", ("class-line", "allowed"), "pack-0", "make",
                  put(8),
                  "append"]
        for version in (2, 3, 4):
            stream = stream_of_words(version, *words, "stop")
            short = optimized(stream, registry, has_outside=True)
            self.assertNotEqual(short, stream)
            first = load(stream, registry, outside=noting("outside", Row))
            noted = list(calls)
            calls.clear()
            second = load(short, registry, outside=noting("outside", Row))
            self.assertEqual(noted, calls)
            self.assertEqual([call[0] for call in calls], ["outside", "make", "build", "build", "outside"])
            self.assertTrue(same_graph(first, second))
            calls.clear()

    def test_no_hook_is_called(self):
        words = [("outer-line", "x"), ("class-line", "build"), "mark", "pack", "make", put(5), "none", "build",
                 "drop"]
        for version in range(1, 5):
            stream = stream_of_words(version, *words, "stop")
            self.assertEqual(len(optimized(stream, hooks(), has_outside=True)) < len(stream), True)
            self.assertIs(is_optimal(stream, hooks(), has_outside=True), False)

    def test_the_memo_is_no_greater_than_needed(self):
        chance = random.Random(11)
        for _ in range(50):
            value = random_graph(chance, 6)
            for version in range(1, 5):
                stream = dump(value, Registry(*BRANDS), version=version)
                gets = {word for word in listing(stream).split("; ") if word.startswith("get")}
                self.assertEqual(list(traced(stream, Registry(*BRANDS)))[-1][3], len(gets))


class ErrorTests(unittest.TestCase):
    def test_what_is_no_stream(self):
        for wrong in NEVER_STREAMS:
            for call in (optimized, is_optimal):
                self.assertIs(caught(InvalidStream, call, wrong).value, wrong)
                self.assertIs(caught(InvalidStream, call, wrong, hooks(), has_outside=True).value, wrong)

    def test_refused(self):
        cases = [((), 0, "end"), ((163, 163, 160), 2, "stack"), ((163, 160, 0), 2, "rest"), ((182, 163), 2, "end"),
                 ((161, 4, 163, 160), 2, "frame"), ((182, 190, 48, 10, 190, 48, 10, 160), 4, "memo")]
        for stream, offset, reason in cases:
            for call in (optimized, is_optimal):
                error = caught(Refused, call, stream)
                self.assertEqual((error.offset, error.reason), (offset, reason))

    def test_the_registry_and_has_outside_count(self):
        stream = stream_of_words(1, ("outer-line", "x"), ("class-line", "allowed"), "mark", "pack", "make", "drop",
                                 "stop")
        for call in (optimized, is_optimal):
            self.assertEqual(caught(Refused, call, stream).reason, "outer")
            self.assertEqual(caught(Refused, call, stream, hooks()).reason, "outer")
            self.assertEqual(caught(Refused, call, stream, hooks(), has_outside=False).reason, "outer")
            self.assertEqual(caught(Refused, call, stream, has_outside=True).reason, "class")
            self.assertEqual(caught(Refused, call, stream, None, has_outside=True).reason, "class")
        self.assertEqual(optimized(stream, hooks(), has_outside=True), stream)

    def test_frames_make_a_stream_too_long(self):
        def one_frame(body):
            return (161, 4, 162, *len(body).to_bytes(4, "little"), *body)

        fitting = one_frame((163, 175) * 23185 + (167, 5, 160))
        result = optimized(fitting)
        self.assertEqual((len(fitting), len(result), is_optimal(fitting)), (46380, 50000, False))
        self.assertIs(is_optimal(result), True)
        for many in (23186, 24995):
            stream = one_frame((163, 175) * many + (163, 160))
            self.assertEqual(caught(TooLong, optimized, stream).limit, 50000)
            self.assertIs(is_optimal(stream), False)

    def test_greater_numbers_make_a_stream_too_long(self):
        def words(many):
            others = [word for number in range(256) for word in ("row", ("put-wide", 300 + number),
                                                                 ("get-wide", 300 + number), "append", "append")]
            return ["row", *others, "row", ("put-octet", 0), *[("get-octet", 0), "drop"] * many, "append", "stop"]

        stream = stream_of_words(2, *words(2))
        self.assertEqual(len(optimized(stream)), len(stream) - 256 * 6 + 3 + 3 * 2)
        stream = stream_of_words(2, *words(9000))
        self.assertLess(len(stream), 50000)
        self.assertEqual(caught(TooLong, optimized, stream).limit, 50000)
        self.assertIs(is_optimal(stream), False)

    def test_refused_comes_before_too_long(self):
        stream = (161, 4, 162, *(49992).to_bytes(4, "little"), *(163, 175) * 24995, 163, 160, 0)
        self.assertEqual(caught(Refused, optimized, stream).reason, "rest")


class InterfaceTests(unittest.TestCase):
    def test_by_position_and_by_name(self):
        stream = stream_of_words(1, ("outer-line", "x"), ("class-line", "allowed"), "mark", "pack", "make", "drop",
                                 "stop")
        for call, expected in ((optimized, stream), (is_optimal, True)):
            self.assertEqual(call(stream=stream, registry=hooks(), has_outside=True), expected)
            self.assertEqual(call(stream, hooks(), has_outside=True), expected)
            with self.assertRaises(TypeError):
                call(stream, hooks(), True)

    def test_as_it_is_written(self):
        for name in ("optimized", "is_optimal"):
            call = getattr(optimizing, name)
            self.assertEqual(call.__module__, "brinejar.optimizing")
            self.assertEqual(str(inspect.signature(call)), "(stream, registry=None, *, has_outside=False)")

    def test_kinds_of_answers(self):
        stream = dump(Pack(Row(), 1))
        self.assertIs(type(optimized(stream)), tuple)
        self.assertIs(is_optimal(stream), True)
        self.assertIs(is_optimal((182, 190, 48, 10, 160)), False)
        self.assertEqual(optimized((182, 190, 48, 10, 160)), (182, 160))


if __name__ == "__main__":
    unittest.main()
