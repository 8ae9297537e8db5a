"""Points 7, 10, 12 and 13: version_of, check, is_right and traced."""

import inspect
import random
import unittest

from brinejar import checking
from brinejar.checking import check, is_right, traced, version_of
from brinejar.describing import described
from brinejar.dumping import dump
from brinejar.errors import InvalidStream, Refused
from brinejar.loading import load
from brinejar.nodes import Bag, Book, Octets, Pack, Row, Thing
from brinejar.registry import Registry
from tests.helpers import caught
from tests.refusing import hooks, never_called, stream_of_words
from tests.test_describing import NEVER_STREAMS, wide
from tests.test_dump_things import entered
from tests.test_makers import thing_with


def sample_values():
    """Return values that are written with many opcodes, and the registry of their brands."""
    registry = entered(lambda thing: ((thing.field("x"),), thing.field("y")), takes=1, build=never_called, brand="two")
    registry.allow("shop.item")
    row = Row("salt", 1, -300)
    pack = Pack(row, "salt", None, True)
    row.put_last(pack)
    item = thing_with("shop.item", ("n", 1), ("row", row))
    item.set_field("self", item)
    book = Book.of(((1, item), ("salt", pack), ("more", Octets((1, 2, 255)))))
    bag = Bag("salt", "pepper", -1, 300)
    two = thing_with("two", ("x", bag), ("y", book))
    values = [row, pack, item, book, bag, two, Row(two, two, item, bag), Pack(Pack(), Row(), Book(), Bag()), False]
    return values, registry


def sample_streams():
    """Return right streams of all versions, and the registry of their brands."""
    values, registry = sample_values()
    return [dump(value, registry, version=version) for value in values for version in range(1, 5)], registry


class VersionTests(unittest.TestCase):
    def test_of_right_streams(self):
        for version in range(1, 5):
            self.assertEqual(version_of(dump(Row(1, 2), version=version)), version)

    def test_of_wrong_streams(self):
        for stream in ((), (0,), (255, 255), (160, 160), (162, 4), (163, 161, 4), (2,), (4, 161)):
            self.assertEqual(version_of(stream), 1)
        for version in (2, 3, 4):
            for rest in ((), (0,), (161, 3), (160, 160)):
                self.assertEqual(version_of((161, version, *rest)), version)

    def test_of_wrong_arguments_of_version(self):
        self.assertEqual(version_of((161,)), 1)
        for octet in range(256):
            if octet not in (2, 3, 4):
                self.assertEqual(version_of((161, octet)), 1)
                self.assertEqual(version_of((161, octet, 160)), 1)


class ParameterTests(unittest.TestCase):
    def test_what_is_no_stream(self):
        for wrong in NEVER_STREAMS:
            for call in (version_of, check, is_right):
                self.assertIs(caught(InvalidStream, call, wrong).value, wrong)
            rows = traced(wrong)
            self.assertTrue(inspect.isgenerator(rows))
            self.assertIs(caught(InvalidStream, next, rows).value, wrong)

    def test_the_longest_stream(self):
        self.assertIsNone(check((163, 175) * 24999 + (163, 160)))
        self.assertEqual(check((163,) * 50000), (50000, "end"))

    def test_by_position_and_by_name(self):
        stream = (201, 120, 10, 160)
        self.assertEqual(check(stream), (0, "outer"))
        self.assertIs(is_right(stream), False)
        self.assertEqual(caught(Refused, list, traced(stream)).reason, "outer")
        self.assertIsNone(check(stream=stream, registry=None, has_outside=True))
        self.assertIs(is_right(stream, Registry(), has_outside=True), True)
        self.assertIs(is_right(stream=stream, registry=Registry(), has_outside=False), False)
        self.assertEqual(len(list(traced(stream=stream, registry=None, has_outside=True))), 2)
        self.assertEqual(version_of(stream=stream), 1)
        for call in (check, is_right, traced):
            with self.assertRaises(TypeError):
                call(stream, None, True)

    def test_the_interface_as_it_is_written(self):
        parameters = ["stream", "registry", "has_outside"]
        for name, given in (("version_of", ["stream"]), ("check", parameters), ("is_right", parameters),
                            ("traced", parameters)):
            found = getattr(checking, name)
            self.assertEqual((found.__module__, list(inspect.signature(found).parameters)),
                             ("brinejar.checking", given))


class CheckTests(unittest.TestCase):
    def test_examples(self):
        self.assertEqual((check((161, 2, 183)), check((160,)), check(())), ((2, "stack"), (0, "stack"), (0, "end")))

    def test_right_streams(self):
        streams, registry = sample_streams()
        for stream in streams:
            self.assertIsNone(check(stream, registry))
            self.assertIs(is_right(stream, registry), True)

    def test_no_registry_is_an_empty_one(self):
        stream = (197, 97, 10, 174, 177, 199, 160)
        self.assertEqual(check(stream), (0, "class"))
        self.assertEqual(check(stream, Registry()), (0, "class"))
        self.assertIsNone(check(stream, Registry("a")))

    def test_the_reasons_of_description_come_in_their_order_too(self):
        cases = {
            (): (0, "end"), (163,): (1, "end"), (5,): (0, "opcode"), (163, 161, 2): (1, "opcode"),
            (161,): (0, "end"), (161, 9): (0, "argument"), (166, 49): (0, "end"), (166, 10): (0, "argument"),
            (161, 4, 163): (2, "frame"), (161, 4, 162, 0, 0, 0, 0): (2, "argument"),
            (161, 4, 162, 1, 0, 0, 0, 167, 7): (7, "frame"), (161, 4, 162, 2, 0, 0, 0, 163, 162): (8, "frame"),
            (161, 4, 162, 3, 0, 0, 0, 163, 160, 163): (8, "frame"), (161, 2, 188): (2, "opcode"),
            (163, 160, 0): (2, "rest"),
        }
        for stream, expected in cases.items():
            self.assertEqual(check(stream), expected)
            self.assertIs(is_right(stream), False)

    def test_what_can_be_read_is_asked_before_what_can_be_run(self):
        self.assertEqual(check((194, 49, 48, 48, 48, 48, 10)), (0, "argument"))
        self.assertEqual(check((194, 57, 57, 57, 57, 10)), (0, "memo"))
        self.assertEqual(check((194, 49)), (0, "end"))
        self.assertEqual(check((197, 49, 10)), (0, "argument"))
        self.assertEqual(check((197, 97, 10)), (0, "class"))
        self.assertEqual(check((161, 4, 162, 2, 0, 0, 0, 160, 163)), (7, "frame"))
        self.assertEqual(check((161, 4, 162, 1, 0, 0, 0, 160, 163)), (7, "stack"))
        self.assertEqual(check((160, 163)), (0, "stack"))
        self.assertEqual(check((161, 4, 162, 2, 0, 0, 0, 163, 160, 0)), (9, "rest"))

    def test_no_hook_is_called(self):
        for version in range(1, 5):
            stream = stream_of_words(version, ("class-line", "two"), "mark", "true", ("outer-line", "x"), "pack",
                                     "make",
                                     ("outer-line", "y"), "build", "stop")
            self.assertIsNone(check(stream, hooks(), has_outside=True))
            self.assertEqual(list(traced(stream, hooks(), has_outside=True))[-1][2:], (("thing",), 0))

    def test_the_registry_is_not_changed(self):
        streams, registry = sample_streams()
        for stream in streams:
            check(stream, registry)
        self.assertEqual(registry.brands, ("shop.item", "two"))


class FactTests(unittest.TestCase):
    def test_a_right_stream_that_is_cut(self):
        streams, registry = sample_streams()
        for stream in streams:
            starts = [offset for offset, _, _ in described(stream)]
            for length in range(len(stream)):
                place = length if length in starts else max(at for at in starts if at < length)
                self.assertEqual(check(stream[:length], registry), (place, "end"))

    def test_a_right_stream_with_further_octets(self):
        streams, registry = sample_streams()
        for stream in streams:
            for rest in ((0,), (160,), (163, 160), (161, 2), (162, 1, 0, 0, 0, 160), (255,) * 3):
                self.assertEqual(check(stream + rest, registry), (len(stream), "rest"))

    def changed(self, stream, chance):
        """Return the stream with some octets changed, left out or put in."""
        octets = list(stream)
        for _ in range(chance.randint(1, 3)):
            at = chance.randrange(len(octets)) if octets else 0
            how = chance.randrange(4)
            if how == 0 and octets:
                del octets[at]
            elif how == 1:
                octets.insert(at, chance.choice([chance.randrange(256), chance.randrange(160, 203)]))
            elif how == 2 and octets:
                octets[at] = chance.choice([chance.randrange(256), chance.randrange(160, 203)])
            elif octets:
                octets[at] = chance.choice([10, 48, 49, 45, 0, 1, 2, 92])
        return tuple(octets)

    def assert_told_alike(self, stream, registry):
        """Check that check, is_right, traced, described and load agree; return whether the stream is right."""
        found = check(stream, registry)
        self.assertIs(is_right(stream, registry), found is None)
        rows, seen = [], None
        try:
            for row in traced(stream, registry):
                rows.append(row)
        except Refused as error:
            seen = (error.offset, error.reason)
        self.assertEqual(seen, found)
        names, told = [], None
        try:
            for row in described(stream):
                names.append(row)
        except Refused as error:
            told = (error.offset, error.reason)
        self.assertEqual([row[:2] for row in rows], [row[:2] for row in names[:len(rows)]])
        if found is not None:
            error = caught(Refused, load, stream, registry)
            self.assertEqual((error.offset, error.reason), found)
            if found[1] in ("end", "frame", "opcode", "argument", "rest"):
                self.assertEqual(told, found)
            self.assertEqual(len(rows), len([row for row in names if row[0] < found[0]]))
        return found

    def test_changed_streams(self):
        chance = random.Random(7)
        streams, _ = sample_streams()
        reasons = {}
        for _ in range(2500):
            stream = self.changed(chance.choice(streams), chance)
            found = self.assert_told_alike(stream, self.registry())
            reasons[found and found[1]] = reasons.get(found and found[1], 0) + 1
        for reason in (None, "end", "frame", "opcode", "argument", "stack", "kind", "memo", "class"):
            self.assertGreater(reasons.get(reason, 0), 0, reasons)

    def registry(self):
        """Return a registry for the sample streams whose hooks make and build without a word."""
        registry = Registry("shop.item")
        registry.enter("two", lambda arguments: Thing("two"), None, takes=1, build=lambda thing, state: None)
        return registry

    def test_only_the_octets_up_to_the_wrong_opcode_count(self):
        chance = random.Random(8)
        streams, registry = sample_streams()
        for _ in range(300):
            stream = self.changed(chance.choice(streams), chance)
            found = check(stream, registry)
            if found is None or found[1] in ("end", "rest"):
                continue
            ends = [end for end in range(found[0] + 1, len(stream) + 1) if check(stream[:end], registry) == found]
            self.assertTrue(ends)
            # From the end of the wrong opcode on, nothing changes the answer.
            self.assertEqual(ends, list(range(ends[0], len(stream) + 1)))
            for rest in ((), (0,), (160,), (10,), (162, 1, 0, 0, 0, 160)):
                self.assertEqual(check(stream[:ends[0]] + rest, registry), found)


class TracedTests(unittest.TestCase):
    def test_the_example(self):
        self.assertEqual(list(traced((182, 174, 165, 176, 160))), [
            (0, "row", ("row",), 0), (1, "mark", ("row", "mark"), 0), (2, "true", ("row", "mark", "truth"), 0),
            (3, "drop-to-mark", ("row",), 0), (4, "stop", ("row",), 0)])

    def test_version_and_frames_change_nothing(self):
        self.assertEqual(list(traced((161, 4, 162, 1, 0, 0, 0, 182, 162, 2, 0, 0, 0, 193, 160))), [
            (0, "version", (), 0), (2, "frame", (), 0), (7, "row", ("row",), 0), (8, "frame", ("row",), 0),
            (13, "put-next", ("row",), 1), (14, "stop", ("row",), 1)])

    def assert_traced(self, version, *steps):
        """Check what is traced: each step is a word or a pair, with the stack and the memo behind it."""
        words = [word for word, _, _ in steps]
        stream = stream_of_words(version, *words, "stop")
        rows = [row[1:] for row in traced(stream, hooks(), has_outside=True) if row[1] not in ("version", "frame")]
        expected = [(word if isinstance(word, str) else word[0], tuple(stack.split()), size)
                    for word, stack, size in steps]
        self.assertEqual(rows[:-1], expected)
        self.assertEqual(rows[-1], ("stop", *expected[-1][1:]))
        self.assertEqual([row[0] for row in traced(stream, hooks(), has_outside=True)],
                         [row[0] for row in described(stream)])

    def test_atoms_and_marks(self):
        for version in range(1, 5):
            self.assert_traced(version, ("none", "none", 0), ("false", "none truth", 0),
                               ("true", "none truth truth", 0),
                               (("integer-line", -1), "none truth truth integer", 0), ("drop", "none truth truth", 0),
                               (("text-line", "a"), "none truth truth text", 0), ("drop", "none truth truth", 0),
                               (("octets-line", (1,)), "none truth truth octets", 0), ("drop", "none truth truth", 0),
                               ("drop", "none truth", 0), ("mark", "none truth mark", 0),
                               ("mark", "none truth mark mark", 0), ("row", "none truth mark mark row", 0),
                               ("pack", "none truth mark pack", 0), ("drop-to-mark", "none truth", 0),
                               ("drop", "none", 0))

    def test_other_forms(self):
        for version in (3, 4):
            self.assert_traced(version, (("integer-octet", 1), "integer", 0),
                               (("integer-counted", -1), "integer integer", 0),
                               ("pack-2", "pack", 0), (("text-wide", "a"), "pack text", 0),
                               (("text-short", "a"), "pack text text", 0),
                               (("octets-wide", ()), "pack text text octets", 0),
                               ("pack-3", "pack pack", 0), ("pack-1", "pack pack", 0), ("pack-0", "pack pack pack", 0),
                               ("pack-3", "pack", 0))

    def test_rows_books_and_bags(self):
        self.assert_traced(4, ("row", "row", 0), ("true", "row truth", 0), ("append", "row", 0),
                           ("mark", "row mark", 0),
                           ("true", "row mark truth", 0), ("book", "row mark truth book", 0),
                           (("integer-octet", 1), "row mark truth book integer", 0),
                           ("none", "row mark truth book integer none", 0), ("enter", "row mark truth book", 0),
                           ("mark", "row mark truth book mark", 0), ("enter-all", "row mark truth book", 0),
                           ("bag", "row mark truth book bag", 0), ("mark", "row mark truth book bag mark", 0),
                           (("text-short", "a"), "row mark truth book bag mark text", 0),
                           ("add-all", "row mark truth book bag", 0), ("append-all", "row", 0))

    def test_the_memo(self):
        self.assert_traced(3, ("row", "row", 0), (("put-line", 7), "row", 1), (("put-octet", 9), "row", 2),
                           ("put-next", "row", 3), (("put-wide", 300), "row", 4), (("get-line", 7), "row row", 4),
                           ("append", "row", 4), (("get-octet", 2), "row row", 4),
                           (("get-wide", 300), "row row row", 4),
                           ("pack-3", "pack", 4))

    def test_things_and_outside_values(self):
        self.assert_traced(4, (("class-line", "two"), "class", 0), (("outer-line", "x"), "class outside", 0),
                           (("text-short", "x"), "class outside text", 0), ("outer-text", "class outside outside", 0),
                           ("pack-2", "class pack", 0), ("make", "thing", 0), (("outer-line", ""), "thing outside", 0),
                           ("build", "thing", 0), (("text-short", "bag"), "thing text", 0),
                           ("class-text", "thing class", 0),
                           ("row", "thing class row", 0), ("pack-1", "thing class pack", 0), ("make", "thing bag", 0),
                           ("drop", "thing", 0))

    def test_refused_behind_the_tuples_of_those_before_it(self):
        rows = traced((163, 163, 160))
        self.assertEqual([next(rows), next(rows)], [(0, "none", ("none",), 0), (1, "none", ("none", "none"), 0)])
        error = caught(Refused, next, rows)
        self.assertEqual((error.offset, error.reason), (2, "stack"))

    def test_rest_comes_behind_the_tuple_of_stop(self):
        rows = traced((163, 160, 163))
        self.assertEqual([next(rows), next(rows)], [(0, "none", ("none",), 0), (1, "stop", ("none",), 0)])
        error = caught(Refused, next, rows)
        self.assertEqual((error.offset, error.reason), (2, "rest"))

    def test_an_empty_stream(self):
        error = caught(Refused, next, traced(()))
        self.assertEqual((error.offset, error.reason), (0, "end"))

    def test_a_generator_of_tuples(self):
        rows = traced((163, 160))
        self.assertTrue(inspect.isgenerator(rows))
        row = next(rows)
        self.assertEqual((type(row), type(row[2])), (tuple, tuple))

    def test_many_marks(self):
        last = list(traced((163, *(174,) * 900, 163, *(176,) * 900, 160)))[900]
        self.assertEqual((last[0], last[2]), (900, ("none",) + ("mark",) * 900))

    def test_frames_of_one_octet(self):
        stream = (161, 4) + (162, *wide(1), 163) + (162, *wide(1), 160)
        self.assertEqual([row[:2] for row in traced(stream)],
                         [(0, "version"), (2, "frame"), (7, "none"), (8, "frame"), (13, "stop")])


if __name__ == "__main__":
    unittest.main()
