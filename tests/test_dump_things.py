"""Points 15, 16, 18 and 21 in dump: things of allowed and entered brands, and outside values."""

import unittest

from brinejar.dumping import dump
from brinejar.makers import Parts, Whole
from brinejar.nodes import Bag, Book, Octets, Pack, Row, Thing
from brinejar.registry import Registry
from tests.listing import plain
from tests.test_makers import thing_with


def listed(value, version, registry=None, outside=None):
    """Return the listing of a value in a version, without header, frames and stop."""
    return plain(dump(value, registry, version=version, outside=outside))


def entered(reduce, takes=0, build=None, brand="t"):
    """Return a registry with one entered brand whose things are only taken apart."""
    registry = Registry()
    registry.enter(brand, None, reduce, takes=takes, build=build)
    return registry


class AllowedTests(unittest.TestCase):
    def test_without_fields(self):
        registry = Registry("t")
        self.assertEqual(listed(Thing("t"), 1, registry), "class-line t; mark; pack; make")
        self.assertEqual(listed(Thing("t"), 2, registry), "class-line t; pack-0; make")
        self.assertEqual(listed(Thing("t"), 3, registry), "class-line t; pack-0; make")
        self.assertEqual(listed(Thing("t"), 4, registry), "text-short 't'; class-text; pack-0; make")

    def test_one_field(self):
        registry, thing = Registry("t"), thing_with("t", ("n", 3))
        self.assertEqual(listed(thing, 1, registry),
                         "class-line t; mark; pack; make; book; text-line n; integer-line 3; enter; build")
        self.assertEqual(listed(thing, 4, registry), "text-short 't'; class-text; pack-0; make; book; text-short 'n'; "
                                                     "integer-octet 3; enter; build")

    def test_more_fields(self):
        registry, thing = Registry("t"), thing_with("t", ("n", 3), ("a", None))
        self.assertEqual(listed(thing, 1, registry),
                         "class-line t; mark; pack; make; book; text-line n; integer-line 3; enter; text-line a; "
                         "none; enter; build")
        self.assertEqual(listed(thing, 2, registry), "class-line t; pack-0; make; book; mark; text-wide 'n'; "
                                                     "integer-octet 3; text-wide 'a'; none; enter-all; build")

    def test_octets_of_a_thing(self):
        self.assertEqual(dump(Thing("a.b"), Registry("a.b"), version=1), (197, 97, 46, 98, 10, 174, 177, 199, 160))
        self.assertEqual(dump(Thing("ab"), Registry("ab")),
                         (161, 4, 162, 8, 0, 0, 0, 171, 2, 97, 98, 198, 178, 199, 160))

    def test_a_thing_in_its_fields(self):
        registry, thing = Registry("t"), Thing("t")
        thing.set_field("self", thing)
        self.assertEqual(listed(thing, 3, registry), "class-line t; pack-0; make; put-next; book; text-short 'self'; "
                                                     "get-octet 0; enter; build")

    def test_brands_are_texts_in_version_4(self):
        registry = Registry("shop.item", "abc")
        value = Pack(Thing("shop.item"), "shop.item", Thing("shop.item"))
        self.assertEqual(listed(value, 4, registry), "text-short 'shop.item'; put-next; class-text; pack-0; make; "
                                                     "get-octet 0; get-octet 0; class-text; pack-0; make; pack-3")
        self.assertEqual(listed(value, 3, registry), "class-line shop.item; pack-0; make; text-short 'shop.item'; "
                                                     "class-line shop.item; pack-0; make; pack-3")
        value = Pack(Thing("abc"), "abc", Thing("abc"))
        self.assertEqual(listed(value, 4, registry), "text-short 'abc'; class-text; pack-0; make; text-short 'abc'; "
                                                     "text-short 'abc'; class-text; pack-0; make; pack-3")

    def test_labels_are_shared(self):
        registry = Registry("t")
        value = Row(thing_with("t", ("name", 1)), thing_with("t", ("name", 2)))
        self.assertEqual(listed(value, 2, registry),
                         "row; mark; class-line t; pack-0; make; book; text-wide 'name'; put-octet 0; integer-octet 1; "
                         "enter; build; class-line t; pack-0; make; book; get-octet 0; integer-octet 2; enter; build; "
                         "append-all")

    def test_a_pack_in_the_fields_of_a_thing_that_it_contains(self):
        registry, thing = Registry("t"), Thing("t")
        pack = Pack(thing)
        thing.set_field("p", pack)
        self.assertEqual(listed(pack, 3, registry),
                         "class-line t; pack-0; make; put-next; book; text-short 'p'; get-octet 0; pack-1; put-next; "
                         "enter; build; drop; get-octet 1")


class EnteredTests(unittest.TestCase):
    def test_arguments_and_no_state(self):
        registry = entered(Parts("a", "b"), takes=2)
        thing = thing_with("t", ("b", True), ("c", None), ("a", False))
        self.assertEqual(listed(thing, 1, registry), "class-line t; mark; false; true; pack; make")
        self.assertEqual(listed(thing, 2, registry), "class-line t; false; true; pack-2; make")
        self.assertEqual(listed(thing, 4, registry), "text-short 't'; class-text; false; true; pack-2; make")

    def test_many_arguments(self):
        labels = tuple(f"a{number}" for number in range(20))
        thing = thing_with("t", *((label, None) for label in labels))
        for takes in (3, 4, 20):
            written = "none; " * 3 + "pack-3" if takes == 3 else "mark; " + "none; " * takes + "pack"
            registry = entered(Parts(*labels[:takes]), takes=takes)
            self.assertEqual(listed(thing, 3, registry), f"class-line t; {written}; make")

    def test_a_state(self):
        registry = entered(Whole(), build=print)
        thing = thing_with("t", ("n", 3))
        self.assertEqual(listed(thing, 2, registry),
                         "class-line t; pack-0; make; book; text-wide 'n'; integer-octet 3; enter; build")
        self.assertEqual(listed(Thing("t"), 2, registry), "class-line t; pack-0; make; book; build")

    def test_every_value_but_none_is_a_state(self):
        for state, written in ((False, "; false; build"), (0, "; integer-octet 0; build"), (None, ""),
                               ("", "; text-short ''; build"), (Row(), "; row; build"), (Pack(), "; pack-0; build")):
            registry = entered(lambda thing: ((), state), build=print)
            self.assertEqual(listed(Thing("t"), 3, registry), f"class-line t; pack-0; make{written}")

    def test_a_state_can_have_a_number(self):
        book = Book()
        registry = entered(lambda thing: ((), book), build=print)
        self.assertEqual(listed(Pack(Thing("t"), Thing("t"), book), 3, registry),
                         "class-line t; pack-0; make; book; put-next; build; class-line t; pack-0; make; get-octet 0; "
                         "build; get-octet 0; pack-3")

    def test_the_thing_in_its_state(self):
        registry = entered(lambda thing: ((), thing), build=print)
        self.assertEqual(listed(Thing("t"), 3, registry), "class-line t; pack-0; make; put-next; get-octet 0; build")
        registry = entered(lambda thing: ((), Pack(thing, thing)), build=print)
        self.assertEqual(listed(Thing("t"), 3, registry),
                         "class-line t; pack-0; make; put-next; get-octet 0; get-octet 0; pack-2; build")

    def test_arguments_are_shared_but_not_their_pack(self):
        row = Row()
        arguments = (row, "salt")
        registry = entered(lambda thing: (arguments, None), takes=2)
        self.assertEqual(listed(Pack(Thing("t"), Thing("t")), 3, registry),
                         "class-line t; row; put-next; text-short 'salt'; put-next; pack-2; make; "
                         "class-line t; get-octet 0; get-octet 1; pack-2; make; pack-2")

    def test_each_thing_is_taken_apart_once(self):
        asked = []

        def reduce(thing):
            asked.append(thing)
            return (thing.field("next"),), None

        last = thing_with("t", ("next", None))
        first = thing_with("t", ("next", last))
        self.assertEqual(listed(Pack(first, last, first), 3, entered(reduce, takes=1)),
                         "class-line t; class-line t; none; pack-1; make; put-next; pack-1; make; put-next; "
                         "get-octet 0; get-octet 1; pack-3")
        self.assertEqual(asked, [first, last])

    def test_later_changes_of_the_registry_count(self):
        registry, thing = Registry("t"), thing_with("t", ("n", 3))
        first = listed(thing, 3, registry)
        registry.forget("t")
        registry.enter("t", None, Parts("n"), takes=1)
        self.assertEqual(first, "class-line t; pack-0; make; book; text-short 'n'; integer-octet 3; enter; build")
        self.assertEqual(listed(thing, 3, registry), "class-line t; integer-octet 3; pack-1; make")

    def test_equal_streams_if_the_hooks_return_the_same(self):
        registry = entered(lambda thing: ((thing.field("kept"),), None), takes=1)
        values = [Row(thing_with("t", ("kept", 1), ("lost", lost))) for lost in (1, None)]
        self.assertEqual(dump(values[0], registry), dump(values[1], registry))

    def test_an_error_of_reduce_is_raised(self):
        def reduce(thing):
            raise ZeroDivisionError(thing)

        with self.assertRaises(ZeroDivisionError):
            dump(Thing("t"), entered(reduce))


class OutsideTests(unittest.TestCase):
    def test_labels(self):
        row = Row()

        def outside(node):
            return "ab" if node == row else None

        self.assertEqual(listed(Pack(row, row), 1, outside=outside), "mark; outer-line ab; outer-line ab; pack")
        self.assertEqual(listed(Pack(row, row), 2, outside=outside),
                         "text-wide 'ab'; outer-text; text-wide 'ab'; outer-text; pack-2")
        self.assertEqual(listed(row, 4, outside=outside), "text-short 'ab'; outer-text")

    def test_long_labels_are_shared_texts(self):
        row = Row()

        def outside(node):
            return "salt" if node == row else None

        value = Row(row, "salt", row)
        self.assertEqual(listed(value, 1, outside=outside), "row; outer-line salt; append; text-line salt; append; "
                                                            "outer-line salt; append")
        self.assertEqual(listed(value, 3, outside=outside),
                         "row; mark; text-short 'salt'; put-next; outer-text; get-octet 0; get-octet 0; outer-text; "
                         "append-all")

    def test_escapes_in_labels(self):
        self.assertEqual(dump(Row(), version=1, outside=lambda node: "a\n\\"), (201, 97, 92, 110, 92, 92, 10, 160))

    def test_edges_of_labels(self):
        for label in ("", "a" * 2000):
            self.assertEqual(listed(Row(), 1, outside=lambda node: label), f"outer-line {label}".rstrip(" "))
            self.assertEqual(listed(Row(), 2, outside=lambda node: label), f"text-wide '{label}'; outer-text")

    def test_every_node_can_be_outside(self):
        for node in (Octets(), Pack(), Row(), Book(), Bag(), Thing("never.known")):
            self.assertEqual(listed(node, 3, outside=lambda node: "x"), "text-short 'x'; outer-text")

    def test_outside_is_called_once_for_each_node_and_for_no_atom(self):
        asked = []

        def outside(node):
            asked.append(node)
            return "x" if node in (bag, thing) else None

        bag, row, pack, thing = Bag(1), Row("salt", 2, None), Pack(), Thing("t")
        octets = Octets()
        book = Book.of(((1, row), ("salt", bag)))
        row.put_last(bag)
        value = Pack(row, bag, pack, pack, thing, book, thing, octets, octets, row)
        listed(value, 3, outside=outside)
        self.assertEqual(asked, [value, row, bag, pack, thing, book, octets])

    def test_each_call_asks_again(self):
        asked, row = [], Row()
        for _ in range(2):
            dump(Pack(row, row), outside=asked.append)
        self.assertEqual(len(asked), 4)

    def test_a_pack_in_a_ring_is_asked_once(self):
        asked, row = [], Row()
        pack = Pack(row)
        row.put_last(pack)
        dump(pack, outside=asked.append)
        self.assertEqual(asked, [pack, row])

    def test_not_for_the_new_nodes_of_things(self):
        asked = []
        inner = thing_with("allowed", ("n", Row()))
        state = Row()
        registry = entered(lambda thing: ((inner,), state), takes=1, build=print)
        registry.allow("allowed")
        outer = Thing("t")
        dump(outer, registry, outside=asked.append)
        self.assertEqual([node.shape for node in asked], ["thing", "thing", "row", "row"])
        self.assertEqual((asked[0], asked[1], asked[3]), (outer, inner, state))

    def test_outside_before_reduce(self):
        asked = []

        def reduce(thing):
            asked.append("reduce")
            return (), None

        registry = entered(reduce)
        dump(Thing("t"), registry, outside=lambda node: asked.append("outside"))
        self.assertEqual(asked, ["outside", "reduce"])
        self.assertEqual(listed(Thing("t"), 3, registry, lambda node: "x"), "text-short 'x'; outer-text")
        self.assertEqual(asked, ["outside", "reduce"])

    def test_an_error_of_outside_is_raised(self):
        def outside(node):
            raise KeyError(node)

        with self.assertRaises(KeyError):
            dump(Row(), outside=outside)
        self.assertEqual(plain(dump("atom", outside=outside)), "text-short 'atom'")


if __name__ == "__main__":
    unittest.main()
