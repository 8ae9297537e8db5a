"""Point 22: is_canonical and converted."""

import inspect
import os.path
import random
import unittest

from brinejar import converting
from brinejar.converting import converted, first_difference, is_canonical
from brinejar.dumping import dump
from brinejar.errors import InvalidStream, InvalidVersion, NotCanonical, Refused, TooLong
from brinejar.makers import Fields, Parts, Refill, Whole
from brinejar.nodes import Bag, Book, Octets, Pack, Row, Thing
from brinejar.registry import Registry
from tests.helpers import caught
from tests.refusing import hooks, never_called, stream_of_words, versions_of
from tests.test_describing import NEVER_STREAMS
from tests.test_dump_errors import NEVER_VERSIONS, nested
from tests.test_graphs import samples
from tests.test_makers import thing_with
from tests.test_round_trips import ATOMS, BRANDS, random_graph

VERSIONS = (1, 2, 3, 4)
MADE = (("class-line", "allowed"), "mark", "pack", "make")
BUILDING = (("class-line", "build"), "mark", "pack", "make")
N, ONE = ("text-line", "n"), ("integer-line", 1)


def silent(registry):
    """Return a registry that knows the same brands, with hooks that must not be called."""
    twin = Registry()
    for brand in registry.brands:
        if brand.startswith("entered"):
            twin.enter(brand, never_called, never_called, takes=registry.takes_of(brand), build=never_called)
        else:
            twin.allow(brand)
    return twin


class ConvertedTests(unittest.TestCase):
    def assert_converts(self, value, registry=None, outside=None):
        """Check that the streams of a value are canonical and become each other, without a hook."""
        known, has_outside = silent(registry or Registry()), outside is not None
        streams = {version: dump(value, registry, version=version, outside=outside) for version in VERSIONS}
        for version, stream in streams.items():
            self.assertIs(is_canonical(stream, known, has_outside=has_outside), True)
            for other in VERSIONS:
                result = converted(stream, other, known, has_outside=has_outside)
                self.assertEqual(result, streams[other], (version, other))
                self.assertIs(type(result), tuple)

    def test_examples(self):
        self.assertEqual(converted((182, 190, 48, 10, 194, 48, 10, 183, 160), 2),
                         (161, 2, 182, 191, 0, 195, 0, 183, 160))
        self.assertIs(is_canonical((182, 190, 48, 10, 160)), False)

    def test_atoms(self):
        for atom in ATOMS + ("\n", "\\", "a" * 255, "a" * 256, "a" * 2000, 10 ** 300 - 1, 1 - 10 ** 300, 127, 128):
            self.assert_converts(atom)
            self.assert_converts(Pack(atom, atom))

    def test_samples(self):
        for value in samples():
            self.assert_converts(value, Registry("t", "u", "a", "b"))

    def test_random_graphs(self):
        chance = random.Random(21)
        for _ in range(150):
            self.assert_converts(random_graph(chance, chance.randrange(1, 8)), Registry(*BRANDS))

    def test_every_class_of_nodes(self):
        for numbers in ((), (0,), (255,) * 2000):
            self.assert_converts(Octets(numbers))
        for many in range(6):
            keys = tuple(range(many))
            for node in (Pack.of(keys), Row.of(keys), Bag(*keys, "a", "salt"), Bag.of(keys),
                         Book.of(tuple((key, f"key {key}") for key in keys))):
                self.assert_converts(node)
                self.assert_converts(Pack(node, node))
        self.assert_converts(Pack(Bag("salt", "pepper"), "pepper", "salt"))

    def test_packs_that_contain_themselves(self):
        for many in range(6):
            for place in range(many + 1):
                row = Row()
                parts = [1, "salt", Row(), Octets(), "salt"][:many]
                pack = Pack(*parts[:place], row, *parts[place:])
                row.put_last(pack)
                for value in (pack, row, Pack(pack), Row(row, pack)):
                    self.assert_converts(value)
        book, thing = Book(), Thing("t")
        pack = Pack(Pack(book, 1), thing)
        book.enter(1, pack)
        thing.set_field("salt", pack)
        for value in (book, thing, pack, pack.parts[0]):
            self.assert_converts(value, Registry("t"))

    def test_things_of_allowed_brands(self):
        registry = Registry("t", "shop.item")
        own = Thing("shop.item")
        own.set_field("self", own)
        own.set_field("brand", "shop.item")
        for thing in (Thing("t"), thing_with("t", ("n", 1)), thing_with("t", ("n", 1), ("name", None)), own,
                      thing_with("shop.item", ("in", own), ("t", Thing("t")), ("salt", "salt"))):
            self.assert_converts(thing, registry)
            self.assert_converts(Pack(thing, thing, thing_with(thing.brand, ("of", thing))), registry)

    def test_things_of_entered_brands(self):
        registry = Registry("allowed")
        registry.enter("entered", Fields("entered", "x", "y"), Parts("x", "y"), takes=2, build=Refill())
        registry.enter("entered.whole", Fields("entered.whole"), Whole(), build=Refill())
        registry.enter("entered.none", Fields("entered.none"), Parts())
        registry.enter("entered.many", Fields("entered.many", *"abcde"), Parts(*"abcde"), takes=5)
        registry.enter("entered.atom", Fields("entered.atom"), lambda thing: ((), "state"), build=print)
        whole = thing_with("entered.whole", ("n", 1), ("salt", "salt"))
        whole.set_field("self", whole)
        things = [thing_with("entered", ("x", Row(1)), ("y", "salt")), whole, Thing("entered.none"),
                  thing_with("entered.many", *[(label, whole) for label in "abcde"]), Thing("entered.atom"),
                  thing_with("allowed", ("in", Thing("entered.none"))), thing_with("entered", ("x", whole), ("y", 1)),
                  Thing("entered.whole")]
        for thing in things:
            self.assert_converts(thing, registry)
        self.assert_converts(Row(*things, *things), registry)

    def test_a_thing_in_what_its_arguments_contain(self):
        registry = Registry()
        registry.enter("entered", Fields("entered", "in"), Parts("in"), takes=1)
        row = Row()
        row.put_last(thing_with("entered", ("in", row)))
        self.assert_converts(row, registry)

    def test_outside_values(self):
        labels = {"octets": "x", "bag": "label", "thing": "a\n\\b" * 100, "pack": None}
        registry = Registry("t")
        shared, thing = Octets((1,)), Thing("t")
        for value in (shared, Row(shared, shared, 1), Pack(Bag(), "label", Bag(), Book.of(((1, thing),)), thing)):
            self.assert_converts(value, registry, lambda node: labels.get(node.shape))
        self.assert_converts(Pack(Row(), "x"), registry, lambda node: "" if node.shape == "row" else None)
        registry.enter("entered", None, lambda given: ((shared,), shared), takes=1, build=print)
        self.assert_converts(Pack(Thing("entered"), shared), registry, lambda node: labels.get(node.shape)
                             if node.shape == "octets" else None)

    def test_drafts_of_more_than_300_nodes(self):
        row = Row()
        for number in range(300):
            row.put_last(Pack(Row(number), row, Octets(), Book.of(((1, Bag()),))))
        self.assert_converts(row)
        stream = dump(Row(*[Row() for _ in range(5000)]), version=2)
        self.assertIs(is_canonical(stream), True)
        self.assertEqual(converted(stream, 1), (182,) + (182, 183) * 5000 + (160,))

    def test_the_deepest_graph(self):
        registry = Registry("t")
        for value in (nested(49, 1), nested(49, Pack(), Pack), nested(48, Bag(1)), nested(48, Thing("t")),
                      nested(47, thing_with("t", ("n", 1)))):
            self.assert_converts(value, registry)


class NotCanonicalTests(unittest.TestCase):
    def offset_of(self, stream, registry=None, has_outside=False):
        """Return the offset of NotCanonical, after checking that all tell the same."""
        self.assertIs(is_canonical(stream, registry or hooks(), has_outside=has_outside), False)
        offsets = {caught(NotCanonical, converted, stream, version, registry or hooks(), has_outside=has_outside).offset
                   for version in VERSIONS}
        self.assertEqual(len(offsets), 1)
        return offsets.pop()

    def assert_differs(self, words, canonical, versions=VERSIONS):
        """Check the offset at which the stream of these opcodes differs from the canonical one, which has others."""
        for version in set(versions) & set(versions_of([*words, *canonical])):
            stream = stream_of_words(version, *words, "stop")
            other = stream_of_words(version, *canonical, "stop")
            self.assertIs(is_canonical(other, hooks(), has_outside=True), True, (version, canonical))
            offset = len(os.path.commonprefix([stream, other]))
            self.assertEqual(self.offset_of(stream, has_outside=True), offset, (version, words))

    def test_needless_opcodes(self):
        self.assert_differs(["row", ("put-line", 0)], ["row"])
        self.assert_differs(["none", "none", "drop"], ["none"])
        self.assert_differs(["none", "mark", "drop-to-mark"], ["none"])
        self.assert_differs(["row", "mark", "append-all"], ["row"])
        self.assertEqual(self.offset_of((161, 4, 162, 3, 0, 0, 0, 182, 193, 160)), 3)
        self.assertEqual(self.offset_of((161, 2, 163, 163, 175, 160)), 3)

    def test_other_opcodes(self):
        self.assert_differs(["mark", "pack"], ["pack-0"])
        self.assert_differs(["mark", "none", "none", "none", "pack"], ["none", "none", "none", "pack-3"])
        self.assert_differs([("integer-counted", 5)], [("integer-octet", 5)])
        self.assert_differs([("integer-line", 256)], [("integer-counted", 256)], (2, 3, 4))
        self.assert_differs([("text-wide", "a")], [("text-short", "a")])
        self.assert_differs([("octets-line", (1,))], [("octets-wide", (1,))])
        self.assert_differs([("octets-wide", (1,))], [("octets-line", (1,))], (2,))
        self.assert_differs(["row", ("put-octet", 0), ("get-octet", 0), "append"],
                            ["row", "put-next", ("get-octet", 0), "append"])
        self.assert_differs(["row", ("put-wide", 0), ("get-octet", 0), "append"],
                            ["row", ("put-octet", 0), ("get-octet", 0), "append"], (2,))
        self.assert_differs(["row", "put-next", ("get-wide", 0), "append"],
                            ["row", "put-next", ("get-octet", 0), "append"])
        self.assert_differs(["row", "mark", "none", "append-all"], ["row", "none", "append"])
        self.assert_differs(["row", "none", "append", "none", "append"], ["row", "mark", "none", "none",
                                                                          "append-all"])
        self.assert_differs(["book", "mark", ("integer-octet", 1), "none", "enter-all"],
                            ["book", ("integer-octet", 1), "none", "enter"])
        self.assert_differs(["bag", "mark", "add-all"], ["bag"])
        self.assert_differs([("class-line", "bag"), "row", "pack-1", "make"], ["bag"])
        self.assertEqual(self.offset_of((161, 2, 174, 177, 160)), 2)
        self.assertEqual(self.offset_of((161, 2, 168, 3, 0, 1, 0, 160)), 3)

    def test_other_numbers(self):
        self.assert_differs(["row", ("put-line", 1), ("get-line", 1), "append"],
                            ["row", ("put-line", 0), ("get-line", 0), "append"], (1,))
        self.assert_differs(["row", ("put-octet", 7), ("get-octet", 7), "append"],
                            ["row", ("put-octet", 0), ("get-octet", 0), "append"], (2,))
        self.assertEqual(self.offset_of((182, 190, 49, 10, 194, 49, 10, 183, 160)), 2)

    def test_texts_that_are_not_shared_as_dump_shares_them(self):
        salt, ab = ("text-short", "salt"), ("text-short", "ab")
        self.assert_differs([salt, salt, "pack-2"], [salt, "put-next", ("get-octet", 0), "pack-2"])
        self.assert_differs([ab, "put-next", ("get-octet", 0), "pack-2"], [ab, ab, "pack-2"])

    def test_other_frames(self):
        self.assertEqual(self.offset_of((161, 4, 162, 1, 0, 0, 0, 182, 162, 3, 0, 0, 0, 163, 183, 160)), 3)
        body = (182, 174) + (163,) * 70 + (184, 160)
        self.assertIs(is_canonical((161, 4, 162, 64, 0, 0, 0, *body[:64], 162, 10, 0, 0, 0, *body[64:])), True)
        self.assertEqual(self.offset_of((161, 4, 162, 74, 0, 0, 0, *body)), 3)
        self.assertEqual(self.offset_of((161, 4, 162, 64, 0, 0, 0, *body[:64], 162, 9, 0, 0, 0, *body[64:73],
                                         162, 1, 0, 0, 0, 160)), 72)

    def test_members_that_do_not_ascend(self):
        two, one = ("integer-octet", 2), ("integer-octet", 1)
        self.assert_differs(["bag", "mark", two, one, "add-all"], ["bag", "mark", one, two, "add-all"])
        self.assert_differs([("class-line", "bag"), "row", "mark", two, one, "append-all", "pack-1", "make"],
                            [("class-line", "bag"), "row", "mark", one, two, "append-all", "pack-1", "make"], (2, 3))

    def test_a_beginning_of_the_other_one(self):
        # Where one of them ends is a stop, and no right stream goes on behind it: so they differ ahead of it.
        self.assertEqual(first_difference((1, 2), (1, 2, 3)), 2)
        self.assertEqual(first_difference((1, 2, 3), (1, 2)), 2)
        self.assertEqual(first_difference((), (1,)), 0)
        self.assertEqual(first_difference((1, 2, 3), (1, 5, 3)), 1)

    def test_states(self):
        self.assert_differs([*BUILDING, "none", "build"], BUILDING, (1,))
        self.assert_differs([*MADE, "book", "build"], MADE, (1,))
        for words in ([*BUILDING, "book", N, ONE, "enter", "build"], [*MADE, "book", N, ONE, "enter", "build"],
                      [*BUILDING, "book", "build"], [*BUILDING, ("outer-line", "x"), "build"]):
            self.assertIs(is_canonical(stream_of_words(1, *words, "stop"), hooks(), has_outside=True), True)

    def test_a_book_of_fields_that_occurs_elsewhere(self):
        filled = ["book", N, ONE, "enter"]
        numbered = ["book", ("put-line", 0), N, ONE, "enter"]
        self.assert_differs(["mark", *MADE, *numbered, "build", ("get-line", 0), "pack"],
                            ["mark", *MADE, *filled, "build", *filled, "pack"], (1,))
        words = ["mark", *BUILDING, *numbered, "build", ("get-line", 0), "pack"]
        self.assertIs(is_canonical(stream_of_words(1, *words, "stop"), hooks()), True)

    def test_the_fields_that_the_building_sets(self):
        words = ["mark", *MADE, "book", ("put-line", 0), N, ONE, "enter", "build",
                 ("get-line", 0), ("text-line", "m"), ONE, "enter", "drop", "pack"]
        self.assert_differs(words, ["mark", *MADE, "book", N, ONE, "enter", "build", "pack"], (1,))
        words = ["mark", *MADE, "book", "build", "pack"]
        self.assert_differs(words, ["mark", *MADE, "pack"], (1,))

    def test_a_thing_that_was_built_twice(self):
        for made in (MADE, BUILDING):
            for state in (["book"], ["book", N, ONE, "enter"]):
                for version in VERSIONS[:3]:
                    stream = stream_of_words(version, *made, *state, "build", *state, "build", "stop")
                    self.assertEqual(self.offset_of(stream), 0)
                    stream = stream_of_words(version, "row", *made, *state, "build", "book", "build", "append",
                                             "stop")
                    self.assertEqual(self.offset_of(stream), 0)
        stream = stream_of_words(1, *BUILDING, "none", "build", "none", "build", "stop")
        self.assertEqual(self.offset_of(stream), 0)
        # What was dropped is not in the draft.
        self.assert_differs(["none", *BUILDING, "none", "build", "none", "build", "drop"], ["none"])

    def test_a_thing_within_its_own_arguments(self):
        words = ["row", ("put-line", 0), "drop", ("class-line", "two"), ("get-line", 0), ONE, "pack-2", "make",
                 ("put-line", 1), ("get-line", 0), ("get-line", 1), "append", "drop"]
        for version in (2, 3, 4):
            stream = stream_of_words(version, *words, "stop")
            self.assertEqual(self.offset_of(stream), 0)
        # From the Row that the arguments contain it can be written.
        words = ["row", "put-next", ("class-line", "two"), ("get-octet", 0), ("integer-octet", 1), "pack-2", "make",
                 "append"]
        self.assertIs(is_canonical(stream_of_words(3, *words, "stop"), hooks()), True)

    def test_what_is_too_deep(self):
        for version in VERSIONS:
            stream = stream_of_words(version, *["row"] * 50, *["append"] * 49, "stop")
            self.assertIs(is_canonical(stream), True)
            stream = stream_of_words(version, *["row"] * 51, *["append"] * 50, "stop")
            self.assertEqual(self.offset_of(stream), 0)
            stream = stream_of_words(version, *["row"] * 20000, *["append"] * 19999, "stop")
            self.assertEqual(self.offset_of(stream), 0)

    def test_a_canonical_stream_that_is_too_long_itself(self):
        stream = (161, 2, 182, 174, 170, 3, 0, 0, 0, 97, 98, 99, 191, 0) + (195, 0) * 24000 + (184, 160)
        self.assertEqual(self.offset_of(stream), 12)

    def test_outside_values(self):
        self.assert_differs([("outer-line", "x")], [("text-short", "x"), "outer-text"])
        self.assert_differs([("text-short", "x"), "put-next", "outer-text"], [("text-short", "x"), "outer-text"])
        self.assertIs(is_canonical((161, 3, 171, 1, 120, 202, 160), has_outside=True), True)
        self.assertIs(is_canonical((201, 120, 10, 160), has_outside=True), True)


class ErrorTests(unittest.TestCase):
    def test_what_is_no_stream(self):
        for wrong in NEVER_STREAMS:
            self.assertIs(caught(InvalidStream, is_canonical, wrong).value, wrong)
            for version in (1, 4, 5, None):
                self.assertIs(caught(InvalidStream, converted, wrong, version).value, wrong)

    def test_no_version(self):
        for wrong in NEVER_VERSIONS:
            for stream in ((163, 160), (), (182, 190, 48, 10, 160)):
                self.assertIs(caught(InvalidVersion, converted, stream, wrong).value, wrong)

    def test_refused(self):
        for stream, offset, reason in (((), 0, "end"), ((163, 160, 0), 2, "rest"), ((161, 4, 163, 160), 2, "frame"),
                                       ((182, 190, 48, 10, 163, 160), 5, "stack")):
            self.assertIs(is_canonical(stream), False)
            for version in VERSIONS:
                error = caught(Refused, converted, stream, version)
                self.assertEqual((error.offset, error.reason), (offset, reason))

    def test_the_registry_and_has_outside_count(self):
        stream = stream_of_words(1, ("class-line", "allowed"), "mark", "pack", "make", "book", N, ("outer-line", "x"),
                                 "enter", "build", "stop")
        self.assertIs(is_canonical(stream, hooks(), has_outside=True), True)
        for named in ({}, {"registry": hooks()}, {"has_outside": True}, {"registry": None, "has_outside": True},
                      {"registry": hooks(), "has_outside": False}):
            self.assertIs(is_canonical(stream, **named), False)
            self.assertEqual(caught(Refused, converted, stream, 2, **named).reason,
                             "outer" if "registry" in named and named["registry"] else "class")

    def test_too_long(self):
        stream = dump(Row(*[255] * 24000), version=2)
        self.assertLess(len(stream), 50000)
        for version in (2, 3):
            self.assertEqual(len(converted(stream, version)), len(stream))
        self.assertEqual(caught(TooLong, converted, stream, 1).limit, 50000)
        self.assertEqual(caught(TooLong, converted, stream, 4).limit, 50000)

    def test_exactly_50000_octets(self):
        # A row, six octets for each integer and its append, and the stop.
        exact = Row(*[255] * 8333)
        self.assertEqual(len(converted(dump(exact, version=2), 1)), 50000)
        exact.put_last(None)
        self.assertEqual(caught(TooLong, converted, dump(exact, version=2), 1).limit, 50000)

    def test_the_order_of_the_errors(self):
        caught(InvalidStream, converted, [], 5)
        caught(InvalidVersion, converted, (163, 163, 160), 5)
        caught(InvalidVersion, converted, (182, 190, 48, 10, 160), 0)
        caught(Refused, converted, (182, 190, 48, 10), 1)
        stream = (161, 2, 182, 174, 170, 3, 0, 0, 0, 97, 98, 99, 191, 0) + (195, 0) * 24000 + (184, 160)
        caught(NotCanonical, converted, stream, 1)


class InterfaceTests(unittest.TestCase):
    def test_by_position_and_by_name(self):
        stream = (201, 120, 10, 160)
        result = (161, 2, 170, 1, 0, 0, 0, 120, 202, 160)
        self.assertEqual(converted(stream=stream, version=2, registry=None, has_outside=True), result)
        self.assertEqual(converted(stream, 2, Registry(), has_outside=True), result)
        self.assertIs(is_canonical(stream=stream, registry=None, has_outside=True), True)
        with self.assertRaises(TypeError):
            converted(stream, 2, None, True)
        with self.assertRaises(TypeError):
            is_canonical(stream, None, True)

    def test_as_it_is_written(self):
        self.assertEqual(str(inspect.signature(converting.is_canonical)),
                         "(stream, registry=None, *, has_outside=False)")
        self.assertEqual(str(inspect.signature(converting.converted)),
                         "(stream, version, registry=None, *, has_outside=False)")
        for call in (is_canonical, converted):
            self.assertEqual(call.__module__, "brinejar.converting")


if __name__ == "__main__":
    unittest.main()
