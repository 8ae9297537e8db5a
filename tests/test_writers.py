"""Point 24: Writer, its memo and its errors."""

import inspect
import unittest

from brinejar.dumping import dump
from brinejar.errors import (Full, InvalidLabel, InvalidReduction, InvalidValue, InvalidVersion, SelfArgument,
                             TooDeep, TooLong, UnknownBrand)
from brinejar.makers import Parts
from brinejar.nodes import Bag, Book, Octets, Pack, Row, Thing
from brinejar.registry import Registry
from brinejar.sessions import Writer
from tests.helpers import NEVER_VALUES, caught
from tests.listing import plain
from tests.test_dump_errors import NEVER_VERSIONS, answering, nested
from tests.test_makers import thing_with

VERSIONS = (1, 2, 3, 4)


class WriterTests(unittest.TestCase):
    def assert_writes(self, writer, value, expected, size):
        """Check what the writer writes, without header and frames, and the size of its memo then."""
        self.assertEqual(plain(writer.write(value)), expected)
        self.assertEqual(writer.memo_size, size)


class MemoTests(WriterTests):
    def test_example(self):
        writer, row = Writer(version=2), Row()
        self.assertEqual((writer.write(row), writer.write(row)), ((161, 2, 182, 191, 0, 160), (161, 2, 195, 0, 160)))

    def test_each_stream_has_a_header_frames_and_a_stop_of_its_own(self):
        row = Row()
        expected = {1: ((182, 190, 48, 10, 160), (194, 48, 10, 160)),
                    2: ((161, 2, 182, 191, 0, 160), (161, 2, 195, 0, 160)),
                    3: ((161, 3, 182, 193, 160), (161, 3, 195, 0, 160)),
                    4: ((161, 4, 162, 3, 0, 0, 0, 182, 193, 160), (161, 4, 162, 3, 0, 0, 0, 195, 0, 160))}
        for version, streams in expected.items():
            writer = Writer(version=version)
            self.assertEqual((writer.write(row), writer.write(row)), streams)
            self.assertIs(type(writer.write(row)), tuple)
        writer = Writer()
        self.assertEqual(writer.write(row), expected[4][0])
        stream = writer.write(Row(*[None] * 100))
        self.assertEqual((stream[:7], stream[71:76]), ((161, 4, 162, 64, 0, 0, 0), (162, 41, 0, 0, 0)))

    def test_all_puts_stay(self):
        writer = Writer(version=3)
        self.assert_writes(writer, Pack("salt", Octets(), Bag(), "abc", Row()),
                           "mark; text-short 'salt'; put-next; octets-wide; put-next; class-line bag; row; pack-1; "
                           "make; put-next; text-short 'abc'; row; put-next; pack; put-next", 5)
        self.assert_writes(writer, Book.of(((1, "salt"), (2, Book()))),
                           "book; put-next; mark; integer-octet 1; get-octet 0; integer-octet 2; book; put-next; "
                           "enter-all", 7)

    def test_numbers_go_on_from_stream_to_stream(self):
        for version in (1, 2):
            put = ("put-line {}", "put-octet {}")[version - 1]
            get = ("get-line {}", "get-octet {}")[version - 1]
            writer, rows = Writer(version=version), [Row() for _ in range(5)]
            for number, row in enumerate(rows):
                self.assert_writes(writer, row, f"row; {put.format(number)}", number + 1)
            for number, row in enumerate(rows):
                self.assert_writes(writer, row, get.format(number), 5)

    def test_numbers_above_255(self):
        writer, rows = Writer(version=2), [Row() for _ in range(258)]
        listings = [plain(writer.write(row)) for row in rows]
        self.assertEqual(listings[254:], [f"row; put-octet {255}" if n == 255 else
                                          f"row; put-{'octet' if n < 256 else 'wide'} {n}" for n in range(254, 258)])
        self.assertEqual(plain(writer.write(Pack(rows[255], rows[256]))),
                         "get-octet 255; get-wide 256; pack-2; put-wide 258")
        for version in (3, 4):
            writer = Writer(version=version)
            for row in rows:
                self.assertEqual(plain(writer.write(row)), "row; put-next")
            self.assertEqual(plain(writer.write(rows[257])), "get-wide 257")

    def test_a_value_without_anything_new(self):
        writer, row = Writer(version=3), Row()
        for value, expected in ((None, "none"), (True, "true"), (5, "integer-octet 5"), ("abc", "text-short 'abc'")):
            self.assert_writes(writer, value, expected, 0)
            self.assert_writes(writer, value, expected, 0)
        self.assert_writes(writer, "salt", "text-short 'salt'; put-next", 1)
        self.assert_writes(writer, "salt", "get-octet 0", 1)
        self.assert_writes(writer, row, "row; put-next", 2)
        self.assert_writes(writer, row, "get-octet 1", 2)

    def test_what_has_a_number_is_got_also_if_it_has_changed(self):
        registry = Registry("t")
        writer = Writer(registry, version=3)
        row, book, thing = Row(), Book(), Thing("t")
        writer.write(row)
        writer.write(book)
        writer.write(thing)
        row.put_last(1)
        book.enter(1, 2)
        thing.set_field("n", Row())
        self.assert_writes(writer, row, "get-octet 0", 3)
        self.assert_writes(writer, book, "get-octet 1", 3)
        self.assert_writes(writer, Row(thing), "row; put-next; get-octet 2; append", 4)

    def test_inner_nodes_are_got_later(self):
        inner = Row("salt")
        writer = Writer(version=3)
        self.assert_writes(writer, Pack(inner),
                           "row; put-next; text-short 'salt'; put-next; append; pack-1; put-next",
                           3)
        self.assert_writes(writer, inner, "get-octet 0", 3)
        self.assert_writes(writer, Pack(inner), "get-octet 0; pack-1; put-next", 4)

    def test_a_pack_that_contains_itself(self):
        row = Row()
        pack = Pack(row)
        row.put_last(pack)
        writer = Writer(version=2)
        self.assert_writes(writer, pack,
                           "row; put-octet 0; get-octet 0; pack-1; put-octet 1; append; drop; get-octet 1",
                           2)
        self.assert_writes(writer, Pack(pack, row), "get-octet 1; get-octet 0; pack-2; put-octet 2", 3)

    def test_things(self):
        registry = Registry("t")
        registry.enter("u", None, Parts("x"), takes=1)
        writer = Writer(registry, version=4)
        one, two = thing_with("t", ("name", 1)), thing_with("u", ("x", "name"))
        self.assert_writes(writer, one,
                           "text-short 't'; class-text; pack-0; make; put-next; book; text-short 'name'; "
                                        "put-next; integer-octet 1; enter; build", 2)
        self.assert_writes(writer, two, "text-short 'u'; class-text; get-octet 1; pack-1; make; put-next", 3)
        self.assert_writes(writer, Pack(one, two), "get-octet 0; get-octet 2; pack-2; put-next", 4)

    def test_clear_memo(self):
        writer, row = Writer(version=2), Row()
        writer.write(Pack(row, "salt"))
        self.assertEqual(writer.memo_size, 3)
        self.assertIsNone(writer.clear_memo())
        self.assertEqual(writer.memo_size, 0)
        self.assert_writes(writer, row, "row; put-octet 0", 1)
        writer.clear_memo()
        writer.clear_memo()
        self.assert_writes(writer, "salt", "text-wide 'salt'; put-octet 0", 1)

    def test_two_writers_have_two_memos(self):
        row, first, second = Row(), Writer(), Writer()
        first.write(row)
        self.assertEqual((first.memo_size, second.memo_size), (1, 0))
        self.assert_writes(second, row, "row; put-next", 1)


class HookTests(WriterTests):
    def test_later_changes_of_the_registry_count(self):
        registry = Registry()
        writer = Writer(registry, version=3)
        caught(UnknownBrand, writer.write, Thing("t"))
        registry.allow("t")
        thing = thing_with("t", ("n", 1))
        self.assert_writes(writer, Row(Thing("t")), "row; put-next; class-line t; pack-0; make; put-next; append", 2)
        registry.forget("t")
        self.assertEqual(caught(UnknownBrand, writer.write, thing).given, "t")
        registry.enter("t", None, Parts("n"), takes=1)
        self.assert_writes(writer, thing, "class-line t; integer-octet 1; pack-1; make; put-next", 3)
        registry.forget("t")
        # A thing that has a number needs no brand.
        self.assert_writes(writer, thing, "get-octet 2", 3)

    def test_a_thing_is_taken_apart_once(self):
        calls, registry = [], Registry()

        def reduce(thing):
            calls.append(thing)
            return (), None

        registry.enter("t", None, reduce)
        writer, thing = Writer(registry), Thing("t")
        for value in (thing, Pack(thing, thing), thing):
            writer.write(value)
        self.assertEqual(calls, [thing])

    def test_outside_is_asked_once_for_each_node_in_each_call(self):
        calls = []

        def outside(node):
            calls.append(node)
            return "label" if node.shape == "octets" else None

        octets, row = Octets(), Row()
        row.put_last(octets)
        pack = Pack(octets, row, octets, row)
        writer = Writer(version=3, outside=outside)
        self.assert_writes(writer, pack,
                           "mark; text-short 'label'; put-next; outer-text; row; put-next; get-octet 0; "
                                         "outer-text; append; get-octet 0; outer-text; get-octet 1; pack; put-next",
                                         3)
        self.assertEqual(calls, [pack, octets, row])
        calls.clear()
        # What has a number is not asked for, and an outside value has none.
        self.assert_writes(writer, Pack(octets, pack, row),
                           "get-octet 0; outer-text; get-octet 2; get-octet 1; pack-3; put-next", 4)
        self.assertEqual(calls[1:], [octets])
        calls.clear()
        self.assert_writes(writer, octets, "get-octet 0; outer-text", 4)
        self.assertEqual(calls, [octets])

    def test_outside_is_asked_again_after_an_error_and_after_clear_memo(self):
        calls, row = [], Row(Thing("t"))
        writer = Writer(outside=calls.append)
        for _ in range(2):
            caught(UnknownBrand, writer.write, row)
        self.assertEqual([node.shape for node in calls], ["row", "thing"] * 2)
        calls.clear()
        row = Row()
        for _ in range(2):
            writer.write(row)
            writer.clear_memo()
        self.assertEqual(calls, [row, row])

    def test_its_answer_in_a_later_call_can_be_another_one(self):
        answers = ["one", None, "two"]
        octets = Octets()
        writer = Writer(version=3, outside=lambda node: answers.pop())
        self.assert_writes(writer, octets, "text-short 'two'; outer-text", 0)
        self.assert_writes(writer, octets, "octets-wide; put-next", 1)
        self.assert_writes(writer, octets, "get-octet 0", 1)
        self.assertEqual(answers, ["one"])


class ErrorTests(WriterTests):
    def assert_fails(self, error_class, value, registry=None, outside=None, versions=VERSIONS):
        """Return the error, after checking that the memo is as before in all versions."""
        for version in versions:
            writer, row = Writer(registry, version=version, outside=outside), Row()
            writer.write("pepper")
            first = writer.write("salt")
            error = caught(error_class, writer.write, Pack(row, "cinnamon", value))
            self.assertEqual(writer.memo_size, 2)
            # Neither is anything new got, nor is anything old lost.
            self.assertIn("cinnamon", plain(writer.write("cinnamon")))
            self.assertEqual(writer.memo_size, 3)
            self.assertNotIn("salt", plain(writer.write("salt")))
            self.assertNotEqual(writer.write("salt"), first)
        return error

    def test_what_dump_raises(self):
        for wrong in NEVER_VALUES:
            registry = Registry()
            registry.enter("t", None, answering((("pepper", wrong), None)), takes=2)
            self.assertIs(self.assert_fails(InvalidValue, Thing("t"), registry).value, wrong)
            writer = Writer()
            self.assertIs(caught(InvalidValue, writer.write, wrong).value, wrong)
            self.assertEqual(writer.memo_size, 0)
        self.assertEqual(self.assert_fails(TooDeep, nested(50, 1)).limit, 50)
        self.assertEqual(self.assert_fails(UnknownBrand, Thing("t"), Registry("u")).given, "t")
        registry = Registry()
        registry.enter("t", None, lambda thing: ((thing,), None), takes=1)
        self.assertEqual(self.assert_fails(SelfArgument, Thing("t"), registry).given, "t")
        registry.enter("u", None, answering(None))
        self.assertEqual(self.assert_fails(InvalidReduction, Thing("u"), registry).given, "u")
        self.assertEqual(self.assert_fails(InvalidLabel, Octets(), None,
                                           lambda node: 1 if node.shape == "octets" else None).value, 1)

    def test_errors_of_hooks(self):
        def failing(node):
            if node.shape in ("octets", "thing"):
                raise ZeroDivisionError(node)

        registry = Registry()
        registry.enter("t", None, failing)
        for value, outside in ((Octets(), failing), (Thing("t"), None)):
            writer = Writer(registry, outside=outside)
            writer.write("salt")
            with self.assertRaises(ZeroDivisionError):
                writer.write(Pack(Row(), "pepper", value))
            self.assertEqual(writer.memo_size, 1)
            self.assert_writes(writer, "pepper", "text-short 'pepper'; put-next", 2)

    def test_too_long(self):
        self.assertEqual(self.assert_fails(TooLong, Row(*["a" * 1990 + str(n) for n in range(10, 36)])).limit, 50000)
        writer = Writer(version=3)
        row = Row(*[None] * 49992)
        self.assertEqual(len(writer.write(row)), 49999)
        self.assertEqual(len(writer.write(Row(*[None] * 49993))), 50000)
        caught(TooLong, writer.write, Row(*[None] * 49994))
        self.assertEqual(writer.memo_size, 2)

    def test_too_long_by_puts_that_dump_leaves_out(self):
        row = Row(*[Row() for _ in range(9000)])
        self.assertLess(len(dump(row, version=1)), 20000)
        writer = Writer(version=1)
        self.assertEqual(caught(TooLong, writer.write, row).limit, 50000)
        self.assertEqual(writer.memo_size, 0)

    def test_no_version(self):
        for wrong in NEVER_VERSIONS:
            self.assertIs(caught(InvalidVersion, Writer, version=wrong).value, wrong)


class FullTests(WriterTests):
    def full_writer(self, free, version=3, registry=None, outside=None):
        """Return a writer whose memo has room for so many numbers."""
        writer = Writer(registry, version=version, outside=outside)
        for _ in range(4):
            writer.write(Row(*[Row() for _ in range(2399)]))
        writer.write(Row(*[Row() for _ in range(399 - free)]))
        self.assertEqual(writer.memo_size, 10000 - free)
        return writer

    def test_the_last_number(self):
        for version in VERSIONS:
            writer, row = self.full_writer(1, version), Row()
            listing = plain(writer.write(row))
            self.assertEqual(listing, ("row; put-line 9999", "row; put-wide 9999", "row; put-next",
                                       "row; put-next")[version - 1])
            self.assertEqual(writer.memo_size, 10000)
            for value in (Row(), Pack(), Octets(), Bag(), Book(), "salt"):
                self.assertEqual(caught(Full, writer.write, value).limit, 9999)
            self.assertEqual(writer.memo_size, 10000)
            # What needs no number can be written.
            self.assertEqual(plain(writer.write("abc"))[:5], "text-")
            self.assertIn("9999", plain(writer.write(row)))
            writer.clear_memo()
            self.assertNotIn("9999", plain(writer.write(row)))

    def test_the_memo_is_as_before(self):
        writer, row = self.full_writer(2), Row()
        caught(Full, writer.write, Pack(row, "salt", Row()))
        self.assertEqual(writer.memo_size, 9998)
        self.assert_writes(writer, Row(row), "row; put-next; row; put-next; append", 10000)

    def test_at_its_place_in_the_writing(self):
        registry = Registry("t")
        registry.enter("u", None, answering((([],), None)), takes=1)
        writer = self.full_writer(0, 3, registry)
        # A Row has its number ahead of its items, a Pack behind them, a thing behind its arguments.
        caught(Full, writer.write, Row(Thing("unknown")))
        caught(UnknownBrand, writer.write, Pack(Thing("unknown")))
        caught(Full, writer.write, Pack(Row(), Thing("unknown")))
        caught(UnknownBrand, writer.write, Pack(Thing("unknown"), Row()))
        caught(InvalidValue, writer.write, Thing("u"))
        caught(Full, writer.write, thing_with("t", ("n", Thing("unknown"))))
        caught(Full, writer.write, Pack("salt", Thing("unknown")))
        caught(UnknownBrand, writer.write, Pack("abc", Thing("unknown")))
        caught(TooDeep, writer.write, nested(51, 1, Pack))
        caught(Full, writer.write, nested(48, Pack(), Pack))
        caught(Full, writer.write, Book.of(((1, Thing("unknown")),)))
        caught(Full, writer.write, Pack(Bag(), Thing("unknown")))
        self.assertEqual(writer.memo_size, 10000)

    def test_before_too_long(self):
        writer = self.full_writer(1)
        caught(Full, writer.write, Row(*[1] * 49990, Row()))
        caught(TooLong, writer.write, Row(*[1] * 49990))

    def test_a_label_can_need_a_number(self):
        writer = self.full_writer(0, 3, None, lambda node: "label" if node.shape == "octets" else None)
        caught(Full, writer.write, Octets())
        writer = self.full_writer(0, 1, None, lambda node: "label" if node.shape == "octets" else None)
        self.assert_writes(writer, Octets(), "outer-line label", 10000)

    def test_dump_has_no_such_limit(self):
        for version in VERSIONS[1:]:
            self.assertEqual(len(plain(dump(Row(*[Row() for _ in range(12000)]), version=version)).split("; ")),
                             12003)


class InterfaceTests(unittest.TestCase):
    def test_as_it_is_written(self):
        self.assertEqual(Writer.__module__, "brinejar.sessions")
        self.assertEqual(str(inspect.signature(Writer)), "(registry=None, *, version=4, outside=None)")
        self.assertEqual(list(inspect.signature(Writer.write).parameters), ["self", "value"])
        for name in ("write", "memo_size", "clear_memo"):
            self.assertIn(name, vars(Writer))
        self.assertIsInstance(vars(Writer)["memo_size"], property)

    def test_by_position_and_by_name(self):
        registry = Registry("t")
        writer = Writer(registry=registry, version=1, outside=None)
        self.assertEqual(writer.write(value=Thing("t")), Writer(registry, version=1).write(Thing("t")))
        self.assertEqual(Writer().memo_size, 0)
        with self.assertRaises(TypeError):
            Writer(registry, 4)

    def test_none_stands_for_an_empty_registry(self):
        for writer in (Writer(), Writer(None), Writer(Registry())):
            self.assertEqual(caught(UnknownBrand, writer.write, Thing("t")).given, "t")


if __name__ == "__main__":
    unittest.main()
