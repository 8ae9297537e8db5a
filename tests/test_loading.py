"""Points 11, 14 and 17: what the run does, and its errors."""

import inspect
import unittest

from brinejar.dumping import dump
from brinejar.errors import InvalidMade, InvalidStream, InvalidValue, Refused
from brinejar.graphs import same_graph
from brinejar.loading import load
from brinejar.makers import Fields, Parts, Refill, Single, Whole
from brinejar.nodes import Bag, Book, Octets, Pack, Row, Thing
from brinejar.registry import Registry
from tests.helpers import NEVER_VALUES, caught
from tests.refusing import never_called, stream_of_words, versions_of
from tests.test_describing import ARGUMENTS, NEVER_STREAMS, NUMBERS, OTHER_OCTETS, in_version
from tests.test_makers import thing_with

TEXT = ("text-line", "salt")
ONE, TWO, THREE = ("integer-line", 1), ("integer-line", 2), ("integer-line", 3)


class LoadTests(unittest.TestCase):
    def loaded(self, *words, registry=None, outside=None):
        """Return what the stream of these opcodes gives in its last version, after comparing all versions."""
        results = [load(stream_of_words(version, *words, "stop"), registry, outside=outside)
                   for version in versions_of(words)]
        self.assertTrue(results)
        for result in results:
            self.assertTrue(same_graph(result, results[-1]))
        return results[-1]

    def assert_loads(self, expected, *words, registry=None, outside=None):
        """Check that the stream of these opcodes gives this graph."""
        result = self.loaded(*words, registry=registry, outside=outside)
        self.assertTrue(same_graph(result, expected), words)
        self.assertIs(type(result), type(expected))


class ParameterTests(LoadTests):
    def test_examples(self):
        self.assertEqual(load((161, 2, 182, 167, 7, 183, 160)).parts, (7,))
        error = caught(Refused, load, (163, 163, 160))
        self.assertEqual((error.offset, error.reason), (2, "stack"))

    def test_what_is_no_stream(self):
        for wrong in NEVER_STREAMS:
            self.assertIs(caught(InvalidStream, load, wrong).value, wrong)
            self.assertIs(caught(InvalidStream, load, wrong, Registry(), outside=never_called).value, wrong)

    def test_by_position_and_by_name(self):
        stream = (201, 120, 10, 160)
        self.assertEqual(load(stream=stream, registry=None, outside=lambda label: label * 2), "xx")
        self.assertEqual(load(stream, Registry(), outside=lambda label: 5), 5)
        self.assertEqual(caught(Refused, load, stream, None).reason, "outer")
        with self.assertRaises(TypeError):
            load(stream, None, never_called)

    def test_the_interface_as_it_is_written(self):
        parameters = inspect.signature(load).parameters
        self.assertEqual((load.__module__, list(parameters)), ("brinejar.loading", ["stream", "registry", "outside"]))
        self.assertEqual([parameters[name].default for name in ("registry", "outside")], [None, None])


class EffectTests(LoadTests):
    def test_atoms(self):
        for name, atom in (("none", None), ("false", False), ("true", True)):
            self.assertIs(self.loaded(name), atom)
        for name in ("integer-line", "integer-octet", "integer-counted", "text-line", "text-wide", "text-short"):
            for atom, _ in ARGUMENTS[name]:
                self.assertEqual(self.loaded((name, atom)), atom)

    def test_more_octets_than_needed(self):
        for integer, octets in OTHER_OCTETS["integer-counted"]:
            for version in (2, 3, 4):
                self.assertEqual(load(in_version(version, (NUMBERS["integer-counted"], *octets))), integer)

    def test_octets(self):
        for name in ("octets-line", "octets-wide"):
            for numbers, _ in ARGUMENTS[name]:
                self.assert_loads(Octets(numbers), (name, numbers))
        two = self.loaded(("octets-line", (1,)), ("octets-line", (1,)), "drop", ("put-line", 0), ("get-line", 0),
                          "drop")
        self.assertEqual(two.numbers, (1,))

    def test_drops(self):
        self.assert_loads(1, ONE, TWO, "drop")
        self.assert_loads(1, ONE, "mark", TWO, THREE, "drop-to-mark")
        self.assert_loads(1, ONE, "mark", "drop-to-mark")
        self.assert_loads(1, ONE, "mark", "mark", "drop-to-mark", TWO, "drop-to-mark")

    def test_packs(self):
        self.assert_loads(Pack(), "mark", "pack")
        self.assert_loads(Pack(1, 2, "salt", None), "mark", ONE, TWO, TEXT, "none", "pack")
        self.assert_loads(Pack(1, Pack(2), 3), "mark", ONE, "mark", TWO, "pack", THREE, "pack")
        self.assert_loads(Pack(), "pack-0")
        self.assert_loads(Pack(1), ONE, "pack-1")
        self.assert_loads(Pack(1, 2), ONE, TWO, "pack-2")
        self.assert_loads(Pack(1, 2, 3), ONE, TWO, THREE, "pack-3")
        self.assert_loads(Pack(1, Pack(2, 3)), ONE, TWO, THREE, "pack-2", "pack-2")

    def test_rows(self):
        self.assert_loads(Row(), "row")
        self.assert_loads(Row(1, 2), "row", ONE, "append", TWO, "append")
        self.assert_loads(Row(1, 2, 3), "row", ONE, "append", "mark", TWO, THREE, "append-all")
        self.assert_loads(Row(Row(1), Row()), "row", "row", ONE, "append", "append", "row", "append")
        self.assert_loads(Row(), "row", "mark", "append-all")

    def test_books(self):
        self.assert_loads(Book(), "book")
        self.assert_loads(Book.of(((2, 1), ("salt", Row()))), "book", TWO, ONE, "enter", TEXT, "row", "enter")
        self.assert_loads(Book.of(((2, 1), (1, 2), ("salt", 3))),
                          "book", TWO, ONE, "enter", "mark", ONE, TWO, TEXT, THREE, "enter-all")
        self.assert_loads(Book(), "book", "mark", "enter-all")

    def test_bags(self):
        self.assert_loads(Bag(), "bag")
        self.assert_loads(Bag(1, 2, "salt"), "bag", "mark", TEXT, TWO, "add-all", "mark", ONE, "add-all")
        self.assert_loads(Bag(), "bag", "mark", "add-all")
        self.assert_loads(Bag(1, 2, "salt"), ("class-line", "bag"), "row", "mark", TEXT, TWO, ONE, "append-all", "mark",
                          "drop-to-mark", "pack-1", "make")
        self.assert_loads(Bag(), ("class-line", "bag"), "mark", "row", "pack", "make")
        self.assert_loads(Bag(1, 2), ("class-line", "bag"), "row", ONE, "append", "pack-1", "make", "mark", TWO,
                          "add-all")
        self.assert_loads(Bag(3), ("text-line", "bag"), "class-text", "row", THREE, "append", "pack-1", "make")

    def test_a_bag_is_made_of_the_keys_that_the_row_has_then(self):
        self.assert_loads(Pack(Bag(1), Row(1, 2)), "row", ("put-line", 0), ONE, "append", "drop", ("class-line", "bag"),
                          ("get-line", 0), "pack-1", "make", ("get-line", 0), TWO, "append", "pack-2")

    def test_a_bag_with_a_number_can_still_be_filled(self):
        bag = Bag(1, 2)
        self.assert_loads(Pack(bag, bag), "bag", ("put-line", 0), "mark", ONE, "add-all", ("get-line", 0), "mark", TWO,
                          "add-all", "pack-2")

    def test_the_memo(self):
        row = Row()
        row.put_last(row)
        self.assert_loads(row, "row", ("put-line", 3), ("get-line", 3), "append")
        shared = Row(1)
        self.assert_loads(Pack(shared, shared), "row", "put-next", ONE, "append", ("get-octet", 0), "pack-2")
        self.assert_loads(Pack(shared, shared, shared), "row", ("put-wide", 300), ("put-octet", 7), ("get-wide", 300),
                          ("get-octet", 7), ONE, "append", "pack-3")
        self.assert_loads(Pack("salt", "salt"), TEXT, ("put-line", 9999), ("get-line", 9999), "pack-2")

    def test_a_number_of_what_was_dropped(self):
        self.assert_loads(Pack(Row(), 1), "row", ("put-line", 0), "drop", ("get-line", 0), ONE, "pack-2")

    def test_put_next_gives_the_size_of_the_memo(self):
        one, two = Row(1), Row(2)
        self.assert_loads(Pack(one, two, Pack(one, two)), "row", ("put-line", 1), ONE, "append", "row", ("put-line", 0),
                          TWO, "append", "put-next", ("get-line", 1), ("get-line", 2), "pack-2", "pack-3")

    def test_a_pack_that_contains_itself(self):
        row = Row()
        pack = Pack(row)
        row.put_last(pack)
        self.assert_loads(pack, "row", ("put-line", 0), ("get-line", 0), "pack-1", ("put-line", 1), "append", "drop",
                          ("get-line", 1))

    def test_class_text_takes_the_text(self):
        self.assert_loads(Pack(1, Thing("salt")), ONE, TEXT, "class-text", "pack-0", "make", "pack-2",
                          registry=Registry("salt"))

    def test_streams_of_exactly_50000_octets(self):
        row = load((182,) + (163, 183) * 24999 + (160,))
        self.assertEqual(len(row.parts), 24999)
        self.assertIs(caught(InvalidStream, load, (182,) + (163, 183) * 24999 + (160, 160)).value[-1], 160)
        pack = load((174,) + (163,) * 49997 + (177, 160))
        self.assertEqual(pack.parts, (None,) * 49997)

    def test_deep_graphs(self):
        value = load((182,) * 25000 + (183,) * 24999 + (160,))
        depth = 0
        while value.parts:
            value, depth = value.parts[0], depth + 1
        self.assertEqual(depth, 24999)


class AllowedTests(LoadTests):
    def test_fields(self):
        registry = Registry("a")
        made = (("class-line", "a"), "mark", "pack", "make")
        self.assert_loads(Thing("a"), *made, registry=registry)
        self.assert_loads(Thing("a"), *made, "book", "build", registry=registry)
        self.assert_loads(thing_with("a", ("salt", 1)), *made, "book", TEXT, ONE, "enter", "build", registry=registry)

    def test_fields_that_are_set_again_keep_their_place(self):
        words = (("class-line", "a"), "mark", "pack", "make",
                 "book", ("text-line", "x"), ONE, "enter", ("text-line", "y"), TWO, "enter", "build",
                 "book", ("text-line", "z"), ONE, "enter", ("text-line", "x"), THREE, "enter", "build")
        expected = thing_with("a", ("x", 3), ("y", 2), ("z", 1))
        self.assert_loads(expected, *words, registry=Registry("a"))

    def test_the_fields_that_the_book_has_then(self):
        book = Book.of((("salt", 1), (1, 2)))
        self.assert_loads(Pack(thing_with("a", ("salt", 1)), book),
                          ("class-line", "a"), "mark", "pack", "make",
                          "book", ("put-line", 0), TEXT, ONE, "enter", "build",
                          ("get-line", 0), ONE, TWO, "enter", "mark", "drop-to-mark", "pack-2", registry=Registry("a"))

    def test_a_thing_in_its_fields(self):
        thing = Thing("a")
        thing.set_field("salt", thing)
        self.assert_loads(thing, ("class-line", "a"), "mark", "pack", "make", ("put-line", 0),
                          "book", TEXT, ("get-line", 0), "enter", "build", registry=Registry("a"))

    def test_each_make_gives_a_new_thing(self):
        pack = self.loaded(("class-line", "a"), "pack-0", "make", ("class-line", "a"), "pack-0", "make", "pack-2",
                           registry=Registry("a"))
        self.assertNotEqual(*pack.parts)


class HookTests(LoadTests):
    def registry(self, calls, made=None):
        """Return a registry whose hooks note their calls."""
        def make(arguments):
            calls.append(("make", arguments))
            return thing_with("made", ("of", Pack.of(arguments))) if made is None else made

        def build(thing, state):
            calls.append(("build", thing, state))
            return "ignored"

        registry = Registry("allowed")
        registry.enter("t", make, never_called, takes=2, build=build)
        registry.enter("u", make, never_called)
        return registry

    def test_make_is_called_with_the_tuple_of_the_items(self):
        calls = []
        thing = self.loaded(("class-line", "t"), "row", ONE, "pack-2", "make", registry=self.registry(calls))
        arguments = calls[-1][1]
        self.assertEqual((len(calls), type(arguments), len(arguments)), (3, tuple, 2))
        self.assertEqual((arguments[1], arguments[0].shape), (1, "row"))
        self.assertEqual(thing.field("of").parts, arguments)
        calls.clear()
        self.loaded(("class-line", "u"), "pack-0", "make", registry=self.registry(calls))
        self.assertEqual(calls, [("make", ())] * 3)

    def test_a_thing_of_any_brand_is_pushed_itself(self):
        thing = Thing("other")
        registry = self.registry([], thing)
        for version in range(1, 5):
            self.assertIs(load(stream_of_words(version, ("class-line", "u"), "mark", "pack", "make", "stop"),
                               registry), thing)

    def test_build_is_called_with_the_thing_and_the_state(self):
        for state, word in ((None, "none"), (False, "false"), (1, ONE), ("salt", TEXT)):
            calls = []
            thing = self.loaded(("class-line", "t"), ONE, ONE, "pack-2", "make", word, "build",
                                registry=self.registry(calls))
            self.assertEqual([call[0] for call in calls], ["make", "build"] * 3)
            self.assertEqual(calls[-1], ("build", thing, state))
            self.assertIs(type(calls[-1][2]), type(state))

    def test_the_brand_is_that_of_the_class_that_made_the_thing(self):
        # The thing itself is of an allowed brand, or of one that is not known.
        for brand in ("allowed", "unknown", "u"):
            calls, thing = [], Thing(brand)
            registry = self.registry(calls, thing)
            stream = stream_of_words(2, ("class-line", "t"), ONE, ONE, "pack-2", "make", "book", "build", "stop")
            self.assertIs(load(stream, registry), thing)
            self.assertEqual([call[0] for call in calls], ["make", "build"])
            stream = stream_of_words(2, ("class-line", "u"), "pack-0", "make", "book", "build", "stop")
            error = caught(Refused, load, stream, registry)
            self.assertEqual((error.offset, error.reason), (8, "kind"))

    def test_a_thing_is_built_as_often_as_there_is_a_build(self):
        calls = []
        self.loaded(("class-line", "t"), ONE, ONE, "pack-2", "make", ONE, "build", TWO, "build",
                    registry=self.registry(calls))
        self.assertEqual([call[-1] for call in calls[-2:]], [1, 2])

    def test_the_order_of_the_calls(self):
        calls = []

        def outside(label):
            calls.append(("outside", label))
            return label + "!"

        self.loaded(("outer-line", "x"), ("class-line", "t"), ("text-line", "y"), "outer-text", ONE, "pack-2", "make",
                    ("outer-line", "z"), "build", ("class-line", "allowed"), "pack-0", "make", ("class-line", "bag"),
                    "row",
                    "pack-1", "make", "pack-2", ("class-line", "u"), "pack-0", "make", "pack-3", "pack-2",
                    registry=self.registry(calls), outside=outside)
        names = [call[:2] if call[0] == "outside" else call[0] for call in calls[-6:]]
        self.assertEqual(names, [("outside", "x"), ("outside", "y"), "make", ("outside", "z"), "build", "make"])
        self.assertEqual(len(calls), 18)
        self.assertEqual(calls[-4][1], ("y!", 1))
        self.assertEqual(calls[-2][2], "z!")

    def test_dropped_things_are_made_too(self):
        calls = []
        self.loaded(("class-line", "u"), "pack-0", "make", "drop", "none", registry=self.registry(calls))
        self.assertEqual(calls, [("make", ())] * 3)

    def test_what_is_got_is_not_made_again(self):
        calls = []
        pack = self.loaded(("class-line", "u"), "pack-0", "make", ("put-line", 0), ("get-line", 0), "pack-2",
                           registry=self.registry(calls))
        self.assertEqual(calls, [("make", ())] * 3)
        self.assertEqual(pack.parts[0], pack.parts[1])

    def test_no_hook_is_called_for_a_refused_stream(self):
        registry = Registry()
        registry.enter("t", never_called, never_called, build=never_called)
        for version in range(1, 5):
            for wrong in ("append", "drop-to-mark", ("get-line", 3)):
                stream = stream_of_words(version, ("outer-line", "x"), ("class-line", "t"), "mark", "pack", "make",
                                         ("outer-line", "x"), "build", wrong, "stop")
                caught(Refused, load, stream, registry, outside=never_called)
            stream = stream_of_words(version, ("class-line", "t"), "mark", "pack", "make", "stop")
            self.assertEqual(caught(Refused, load, stream + (0,), registry).reason, "rest")
            self.assertEqual(caught(Refused, load, stream[:-1], registry).reason, "end")

    def test_hooks_that_change_the_registry_do_not_stop_the_run(self):
        registry = Registry()

        def make(arguments):
            registry.forget("t")
            registry.forget("u")
            return Thing("t")

        registry.enter("t", make, never_called, build=Refill())
        registry.allow("u")
        stream = stream_of_words(2, ("class-line", "t"), "pack-0", "make", "book", TEXT, ONE, "enter", "build",
                                 ("class-line", "u"), "pack-0", "make", "book", TEXT, TWO, "enter", "build", "pack-2",
                                 "stop")
        expected = Pack(thing_with("t", ("salt", 1)), thing_with("u", ("salt", 2)))
        self.assertTrue(same_graph(load(stream, registry), expected))
        self.assertEqual(len(registry), 0)


class ErrorTests(LoadTests):
    def test_invalid_made(self):
        for wrong in NEVER_VALUES + (None, True, 0, "t", Row(), Book(), Pack()):
            registry = Registry()
            registry.enter("t.u", lambda arguments: wrong, never_called)
            stream = (197, 116, 46, 117, 10, 174, 177, 199, 160)
            self.assertEqual(caught(InvalidMade, load, stream, registry).given, "t.u")

    def test_an_outside_value_that_is_no_value(self):
        for wrong in NEVER_VALUES:
            for version in range(1, 5):
                stream = stream_of_words(version, ("outer-line", "x"), "stop")
                self.assertIs(caught(InvalidValue, load, stream, outside=lambda label: wrong).value, wrong)
            stream = stream_of_words(2, ("text-line", "x"), "outer-text", "stop")
            self.assertIs(caught(InvalidValue, load, stream, outside=lambda label: wrong).value, wrong)

    def test_every_value_can_be_an_outside_value(self):
        for value in (None, True, 0, 1, "", "x", Row(), Pack(1), Book(), Bag(), Octets(), Thing("unknown")):
            self.assertIs(load((201, 120, 10, 160), outside=lambda label: value), value)

    def test_labels(self):
        labels = []

        def outside(label):
            labels.append(label)

        self.loaded(("outer-line", "a\n\\"), ("outer-line", ""), ("text-line", "a" * 2000), "outer-text", "pack-3",
                    outside=outside)
        self.assertEqual(labels[-3:], ["a\n\\", "", "a" * 2000])

    def test_errors_that_hooks_raise(self):
        def failing(*given):
            raise ZeroDivisionError(given)

        registry = Registry()
        registry.enter("t", failing, never_called)
        registry.enter("u", Fields("u"), never_called, build=failing)
        for words in ([("class-line", "t"), "mark", "pack", "make"], [("outer-line", "x")],
                      [("class-line", "u"), "mark", "pack", "make", "none", "build"]):
            for version in range(1, 5):
                with self.assertRaises(ZeroDivisionError):
                    load(stream_of_words(version, *words, "stop"), registry, outside=failing)

    def test_the_first_error_of_the_run(self):
        registry = Registry()
        registry.enter("t", lambda arguments: None, never_called)
        words = [("outer-line", "x"), ("class-line", "t"), "mark", "pack", "make"]
        for outside, error in ((lambda label: [], InvalidValue), (lambda label: 1, InvalidMade)):
            caught(error, load, stream_of_words(1, "row", *words, "drop", "append", "stop"), registry, outside=outside)


class ReadyHookTests(LoadTests):
    def round_trip(self, value, registry):
        """Check that the value comes back in all versions, and is dumped to the same stream."""
        for version in range(1, 5):
            stream = dump(value, registry, version=version)
            result = load(stream, registry)
            self.assertTrue(same_graph(result, value))
            self.assertEqual(dump(result, registry, version=version), stream)

    def test_fields_and_parts(self):
        registry = Registry()
        registry.enter("t", Fields("t", "x", "y"), Parts("x", "y"), takes=2)
        thing = thing_with("t", ("x", Row(1)), ("y", "salt"))
        self.round_trip(Pack(thing, thing, thing_with("t", ("x", thing), ("y", None))), registry)

    def test_whole_and_refill(self):
        registry = Registry()
        registry.enter("t", Fields("t"), Whole(), build=Refill())
        thing = thing_with("t", ("x", Row(1)), ("y", "salt"))
        thing.set_field("self", thing)
        self.round_trip(Pack(thing, Thing("t"), thing), registry)

    def test_single(self):
        thing = Thing("t")
        registry = Registry()
        registry.enter("t", Single(thing), Parts())
        stream = dump(Pack(Thing("t"), Thing("t")), registry)
        self.assertEqual(load(stream, registry).parts, (thing, thing))


if __name__ == "__main__":
    unittest.main()
