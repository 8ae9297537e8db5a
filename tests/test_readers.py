"""Point 24: Reader, its memo and its errors, and readers behind writers."""

import inspect
import random
import unittest

from brinejar.dumping import dump
from brinejar.errors import InvalidMade, InvalidStream, InvalidValue, Refused
from brinejar.graphs import nodes_of, same_graph
from brinejar.loading import load
from brinejar.makers import Fields, Parts, Refill, Whole
from brinejar.nodes import Bag, Book, Octets, Pack, Row, Thing
from brinejar.registry import Registry
from brinejar.sessions import Reader, Writer
from tests.helpers import NEVER_VALUES, caught
from tests.refusing import never_called, stream_of_words
from tests.test_describing import NEVER_STREAMS
from tests.test_graphs import samples
from tests.test_makers import thing_with
from tests.test_round_trips import ATOMS, BRANDS, any_value, random_graph

VERSIONS = (1, 2, 3, 4)
ONE, TWO = ("integer-line", 1), ("integer-line", 2)
SALT, N = ("text-line", "salt"), ("text-line", "n")


def put(number):
    """Return the row that gives a number."""
    return "put-line", number


def got(number):
    """Return the row that gets a number."""
    return "get-line", number


class ReaderTests(unittest.TestCase):
    def read(self, reader, *words, version=1):
        """Return what the reader reads from the stream of these opcodes."""
        return reader.read(stream_of_words(version, *words, "stop"))

    def refusal(self, reader, *words, version=1):
        """Return the offset and the reason with which the reader refuses the stream, and check its memo."""
        size = reader.memo_size
        error = caught(Refused, self.read, reader, *words, version=version)
        self.assertEqual(reader.memo_size, size)
        return error.offset, error.reason


class MemoTests(ReaderTests):
    def test_example(self):
        reader = Reader()
        first = reader.read((161, 2, 182, 191, 0, 160))
        self.assertEqual((first.shape, first.parts), ("row", ()))
        self.assertIs(reader.read((161, 2, 195, 0, 160)), first)

    def test_what_has_a_number_is_got_in_later_streams(self):
        for version in VERSIONS:
            reader = Reader()
            row = self.read(reader, "row", put(0), SALT, put(1), "append", version=version)
            self.assertEqual(reader.memo_size, 2)
            self.assertIs(self.read(reader, got(0), version=version), row)
            self.assertEqual(self.read(reader, got(1), version=version), "salt")
            mark = self.read(reader, "mark", got(1), got(0), "pack", version=version)
            self.assertEqual(mark.parts, ("salt", row))
            self.assertEqual(reader.memo_size, 2)

    def test_streams_of_several_versions(self):
        reader = Reader()
        row = self.read(reader, "row", put(7), version=4)
        self.assertIs(self.read(reader, got(7), version=1), row)
        self.assertIs(self.read(reader, ("get-wide", 7), version=2), row)
        self.assertIs(self.read(reader, ("get-octet", 7), version=3), row)

    def test_a_number_is_given_once(self):
        reader = Reader()
        self.read(reader, "row", put(3))
        self.assertEqual(self.refusal(reader, "row", put(3)), (1, "memo"))
        self.assertEqual(self.refusal(reader, got(4)), (0, "memo"))
        self.assertEqual(reader.memo_size, 1)

    def test_put_next_gives_the_size_of_the_memo(self):
        reader = Reader()
        rows = [self.read(reader, "row", "put-next", version=3) for _ in range(3)]
        self.assertEqual(reader.memo_size, 3)
        for number, row in enumerate(rows):
            self.assertIs(self.read(reader, got(number)), row)
        reader = Reader()
        self.read(reader, "row", put(1))
        self.assertEqual(self.refusal(reader, "row", "put-next", version=3), (3, "memo"))

    def test_the_stack_is_empty_at_the_beginning(self):
        reader = Reader()
        self.read(reader, ONE)
        self.assertEqual(self.refusal(reader, "drop"), (0, "stack"))

    def test_clear_memo(self):
        reader = Reader()
        row = self.read(reader, "row", put(0))
        self.assertIsNone(reader.clear_memo())
        self.assertEqual(reader.memo_size, 0)
        self.assertEqual(self.refusal(reader, got(0)), (0, "memo"))
        self.assertIsNot(self.read(reader, "row", put(0)), row)
        self.assertEqual(reader.memo_size, 1)

    def test_two_readers_have_two_memos(self):
        first, second = Reader(), Reader()
        self.read(first, "row", put(0))
        self.assertEqual(second.memo_size, 0)
        self.assertEqual(self.refusal(second, got(0)), (0, "memo"))

    def test_load_has_a_memo_of_its_own(self):
        reader = Reader()
        stream = stream_of_words(1, "row", put(0), "stop")
        load(stream)
        reader.read(stream)
        load(stream)
        self.assertEqual(reader.memo_size, 1)

    def test_9999_is_the_last_number(self):
        reader = Reader()
        row = self.read(reader, "row", put(9999))
        self.assertIs(self.read(reader, got(9999)), row)
        reader = Reader()
        for _ in range(4):
            self.read(reader, "row", *["row", "put-next", "append"] * 2500, version=3)
        self.assertEqual(reader.memo_size, 10000)
        self.assertEqual(self.refusal(reader, "row", "put-next", version=3), (3, "memo"))


class ChangeTests(ReaderTests):
    def test_a_row_that_grows(self):
        reader = Reader()
        row = self.read(reader, "row", put(0), ONE, "append")
        self.assertIs(self.read(reader, got(0), TWO, "append"), row)
        self.assertEqual(row.parts, (1, 2))
        self.read(reader, got(0), "mark", got(0), SALT, "append-all", "drop", "none", version=2)
        self.assertEqual(row.parts, (1, 2, row, "salt"))

    def test_a_book_that_grows(self):
        reader = Reader()
        book = self.read(reader, "book", put(0), ONE, TWO, "enter")
        self.read(reader, got(0), SALT, TWO, "enter")
        self.assertEqual(book.pairs, ((1, 2), ("salt", 2)))
        self.assertEqual(self.refusal(reader, got(0), ("integer-line", 1), ONE, "enter")[1], "key")
        self.assertEqual(book.pairs, ((1, 2), ("salt", 2)))

    def test_a_bag_that_grows(self):
        reader = Reader()
        bag = self.read(reader, "bag", put(0), "mark", TWO, "add-all", version=4)
        self.assertIs(self.read(reader, got(0), "mark", ONE, SALT, "add-all", version=4), bag)
        self.assertEqual(bag.members, (1, 2, "salt"))
        self.assertEqual(self.refusal(reader, got(0), "mark", ONE, "add-all", version=4)[1], "key")

    def test_a_bag_of_a_row_that_has_grown(self):
        reader = Reader()
        self.read(reader, "row", put(0), ONE, "append")
        self.read(reader, got(0), TWO, "append")
        bag = self.read(reader, ("class-line", "bag"), "mark", got(0), "pack", "make")
        self.assertEqual(bag.members, (1, 2))
        self.read(reader, got(0), TWO, "append")
        self.assertEqual(self.refusal(reader, ("class-line", "bag"), "mark", got(0), "pack", "make")[1], "key")
        self.read(reader, got(0), "none", "append")
        self.assertEqual(self.refusal(reader, ("class-line", "bag"), "mark", got(0), "pack", "make")[1], "kind")

    def test_a_thing_that_is_built_later(self):
        reader = Reader(Registry("t"))
        thing = self.read(reader, ("class-line", "t"), "mark", "pack", "make", put(0))
        self.assertEqual(thing.fields, ())
        self.assertIs(self.read(reader, got(0), "book", N, ONE, "enter", "build"), thing)
        self.read(reader, got(0), "book", SALT, ONE, "enter", N, TWO, "enter", "build")
        self.assertEqual(thing.fields, (("n", 2), ("salt", 1)))

    def test_an_entered_thing_that_is_built_later(self):
        calls, made = [], Thing("other")
        registry = Registry()
        registry.enter("t", lambda arguments: made, never_called, build=lambda *given: calls.append(given))
        reader = Reader(registry)
        self.assertIs(self.read(reader, ("class-line", "t"), "mark", "pack", "make", put(0)), made)
        row = self.read(reader, "row", put(1))
        self.read(reader, got(0), got(1), "build")
        self.assertEqual(calls, [(made, row)])

    def test_arguments_of_earlier_streams(self):
        registry = Registry()
        registry.enter("t", Fields("t", "x"), never_called, takes=1)
        reader = Reader(registry)
        pack = self.read(reader, "mark", SALT, "pack", put(0))
        thing = self.read(reader, ("class-line", "t"), got(0), "make")
        self.assertEqual((pack.parts, thing.field("x")), (("salt",), "salt"))
        self.read(reader, "mark", "pack", put(1))
        self.assertEqual(self.refusal(reader, ("class-line", "t"), got(1), "make"), (6, "class"))

    def test_the_caller_may_look_at_the_nodes(self):
        reader = Reader()
        row = self.read(reader, "row", put(0))
        row.put_last("mine")
        self.assertIs(self.read(reader, got(0)), row)
        self.assertEqual(row.parts, ("mine",))


class RegistryTests(ReaderTests):
    def test_later_changes_of_the_registry_count(self):
        registry = Registry()
        reader = Reader(registry)
        words = [("class-line", "t"), "mark", "pack", "make", put(0)]
        self.assertEqual(self.refusal(reader, *words), (0, "class"))
        registry.allow("t")
        self.assertEqual(self.read(reader, *words).brand, "t")
        registry.forget("t")
        self.assertEqual(self.refusal(reader, *words), (0, "class"))
        registry.enter("t", Fields("u", "x"), never_called, takes=1)
        thing = self.read(reader, ("class-line", "t"), "mark", ONE, "pack", "make")
        self.assertEqual((thing.brand, thing.fields), ("u", (("x", 1),)))

    def test_a_brand_that_was_forgotten(self):
        registry = Registry("t", "u")
        reader = Reader(registry)
        thing = self.read(reader, ("class-line", "t"), "mark", "pack", "make", put(0))
        registry.forget("t")
        self.assertEqual(self.refusal(reader, got(0), "book", "build"), (4, "kind"))
        self.assertIs(self.read(reader, got(0)), thing)
        # What the brand is now counts for a thing that was made before.
        registry.enter("t", never_called, never_called)
        self.assertEqual(self.refusal(reader, got(0), "book", "build"), (4, "kind"))
        registry.forget("t")
        calls = []
        registry.enter("t", never_called, never_called, build=lambda *given: calls.append(given))
        self.read(reader, got(0), ONE, "build")
        self.assertEqual(calls, [(thing, 1)])
        registry.forget("t")
        registry.allow("t")
        self.assertEqual(self.refusal(reader, got(0), ONE, "build"), (6, "kind"))
        self.read(reader, got(0), "book", N, ONE, "enter", "build")
        self.assertEqual(thing.fields, (("n", 1),))

    def test_outside(self):
        rows = {"a": Row(), "b": Row()}
        reader = Reader(None, outside=rows.get)
        pack = self.read(reader, "mark", ("outer-line", "a"), ("outer-line", "b"), ("outer-line", "a"), "pack", put(0))
        self.assertEqual(pack.parts, (rows["a"], rows["b"], rows["a"]))
        self.assertIs(self.read(reader, got(0)), pack)
        self.assertEqual(self.refusal(reader, ("outer-line", "a"), put(1)), (3, "kind"))
        self.assertEqual(self.refusal(Reader(), ("outer-line", "a")), (0, "outer"))
        self.assertEqual(self.refusal(reader, ("outer-line", "a"), ONE, "append")[1], "kind")


class ErrorTests(ReaderTests):
    def test_what_is_no_stream(self):
        reader = Reader()
        self.read(reader, "row", put(0))
        for wrong in NEVER_STREAMS:
            self.assertIs(caught(InvalidStream, reader.read, wrong).value, wrong)
        self.assertEqual(reader.memo_size, 1)

    def test_a_refused_stream_gives_no_number_and_changes_nothing(self):
        reader = Reader()
        row = self.read(reader, "row", put(0))
        for version in VERSIONS:
            self.refusal(reader, "row", put(1), got(0), ONE, "append", SALT, put(2), "append", version=version)
        self.assertEqual(reader.memo_size, 1)
        self.assertEqual(row.parts, ())
        self.assertEqual(self.refusal(reader, got(1)), (0, "memo"))
        self.assertIs(self.read(reader, got(0)), row)
        self.assertEqual(self.read(reader, SALT, put(1)), "salt")
        self.assertEqual(self.read(reader, got(1)), "salt")
        self.assertEqual(caught(Refused, reader.read, (182, 190, 53, 10, 160, 160)).reason, "rest")
        self.assertEqual(caught(Refused, reader.read, (182, 190, 53, 10)).reason, "end")
        self.assertEqual(reader.memo_size, 2)

    def test_invalid_made(self):
        for wrong in (None, 1, Row(), *NEVER_VALUES):
            registry = Registry()
            registry.enter("t", lambda arguments: wrong, never_called)
            self.assert_run_fails(InvalidMade, registry, never_called, ("class-line", "t"), "mark", "pack", "make")

    def test_an_outside_value_that_is_no_value(self):
        for wrong in NEVER_VALUES:
            error = self.assert_run_fails(InvalidValue, None, lambda label: wrong, ("outer-line", "x"))
            self.assertIs(error.value, wrong)

    def test_errors_of_hooks(self):
        def failing(*given):
            raise ZeroDivisionError(given)

        registry = Registry()
        registry.enter("t", failing, never_called)
        registry.enter("u", Fields("u"), never_called, build=failing)
        for words in ([("class-line", "t"), "mark", "pack", "make"], [("outer-line", "x")],
                      [("class-line", "u"), "mark", "pack", "make", "none", "build"]):
            self.assert_run_fails(ZeroDivisionError, registry, failing, *words)

    def assert_run_fails(self, error_class, registry, outside, *words):
        """Return the error, after checking that the memo is as before."""
        for version in VERSIONS:
            reader = Reader(registry, outside=outside)
            other = self.read(reader, "row", put(0), version=version)
            row = self.read(reader, "row", put(1), version=version)
            with self.assertRaises(error_class) as context:
                self.read(reader, "row", put(2), got(1), ONE, "append", "append", *words, "append", version=version)
            self.assertEqual(reader.memo_size, 2)
            # An earlier node keeps what was done ahead of the error.
            self.assertEqual(row.parts, (1,))
            self.assertEqual(self.refusal(reader, got(2), version=version)[1], "memo")
            self.assertIs(self.read(reader, got(0), version=version), other)
            self.assertEqual(self.read(reader, SALT, put(2), version=version), "salt")
            self.assertEqual(reader.memo_size, 3)
        return context.exception


class FactTests(ReaderTests):
    def assert_read_back(self, values, version, registry=None, outside=None, inside=None):
        """Check that a reader behind a writer gives the same common graph."""
        writer = Writer(registry, version=version, outside=outside)
        reader = Reader(registry, outside=inside)
        results = []
        for value in values:
            stream = writer.write(value)
            results.append(reader.read(stream))
            self.assertEqual(reader.memo_size, writer.memo_size)
        self.assertTrue(same_graph(Pack(*results), Pack(*values)))
        return results

    def test_a_reader_behind_a_writer(self):
        registry = Registry("t", "u", "a", "b")
        for version in VERSIONS:
            values = samples()
            results = self.assert_read_back([*values, *ATOMS, *values], version, registry)
            self.assertFalse(set(nodes_of(Pack(*results))) & set(nodes_of(Pack(*values))))

    def test_random_graphs_with_common_parts(self):
        chance = random.Random(13)
        registry = Registry(*BRANDS)
        for _ in range(100):
            whole = random_graph(chance, chance.randrange(1, 12))
            nodes = list(nodes_of(whole)) or [Row()]
            values = [any_value(chance, nodes) for _ in range(chance.randrange(1, 8))]
            for version in VERSIONS:
                self.assert_read_back(values, version, registry)

    def test_with_hooks(self):
        registry = Registry()
        registry.enter("t", Fields("t", "x"), Parts("x"), takes=1)
        registry.enter("u", Fields("u"), Whole(), build=Refill())
        row = Row("salt")
        one, two = thing_with("t", ("x", row)), thing_with("u", ("in", row))
        two.set_field("self", two)
        outer = Octets((1,))
        for version in VERSIONS:
            self.assert_read_back([Pack(outer, one), two, row, outer, Pack(one, two, outer)], version, registry,
                                  lambda node: "salt" if node == outer else None, lambda label: outer)

    def test_a_first_stream_is_what_load_loads(self):
        for version in VERSIONS:
            value = Row(Bag(1, "a"), Book.of(((1, Pack()),)), "salt", "salt")
            stream = Writer(version=version).write(value)
            self.assertTrue(same_graph(load(stream), value))
            self.assertTrue(same_graph(Reader().read(dump(value, version=version)), value))

    def test_more_than_256_numbers(self):
        for version in VERSIONS:
            rows = [Row(number) for number in range(300)]
            self.assert_read_back([Pack(*rows), *rows, Pack(*rows[::-1])], version)


class InterfaceTests(unittest.TestCase):
    def test_as_it_is_written(self):
        self.assertEqual(Reader.__module__, "brinejar.sessions")
        self.assertEqual(str(inspect.signature(Reader)), "(registry=None, *, outside=None)")
        self.assertEqual(list(inspect.signature(Reader.read).parameters), ["self", "stream"])
        for name in ("read", "memo_size", "clear_memo"):
            self.assertIn(name, vars(Reader))
        self.assertIsInstance(vars(Reader)["memo_size"], property)

    def test_by_position_and_by_name(self):
        reader = Reader(registry=Registry("t"), outside=lambda label: 5)
        self.assertEqual(reader.read(stream=(201, 120, 10, 160)), 5)
        self.assertEqual(Reader(Registry("t")).read((197, 116, 10, 174, 177, 199, 160)).brand, "t")
        with self.assertRaises(TypeError):
            Reader(None, never_called)

    def test_none_stands_for_an_empty_registry(self):
        for reader in (Reader(), Reader(None), Reader(Registry())):
            self.assertEqual(caught(Refused, reader.read, (197, 116, 10, 174, 177, 199, 160)).reason, "class")


if __name__ == "__main__":
    unittest.main()
