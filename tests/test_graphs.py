"""Promises 8 and 9: walking, comparing and copying graphs."""

import inspect
import itertools
import unittest

from brinejar.errors import InvalidValue
from brinejar.graphs import is_value, nodes_of, same_graph, twin_of
from brinejar.nodes import Bag, Book, Node, Octets, Pack, Row, Thing
from tests.helpers import EDGE_ATOMS, NEVER_VALUES, caught


def told(value):
    """Return a description of the graph: nodes are numbered as they are met, and told with contents."""
    numbers, lines = {}, []

    def word(content):
        if not isinstance(content, Node):
            return (type(content).__name__, content)
        if content not in numbers:
            numbers[content] = len(numbers)
            own = getattr(content, "numbers", None), getattr(content, "brand", None)
            line = [content.shape, own]
            lines.append(line)
            line.append([word(child) for child in list(content.children())])
        return ("node", numbers[content])

    return word(value), lines


def thing_of(brand, *pairs):
    """Return a Thing with these fields."""
    thing = Thing(brand)
    for label, value in pairs:
        thing.set_field(label, value)
    return thing


def self_row(*parts):
    """Return a Row that contains these parts and then itself."""
    row = Row(*parts)
    row.put_last(row)
    return row


def ring_by_row(wrap):
    """Return the first node of a ring: wrap of a Row that contains it."""
    row = Row()
    node = wrap(row)
    row.put_last(node)
    return node


def samples():
    """Return values that are all different graphs, new ones with each call."""
    shared = Row(1)
    book = Book()
    book.enter(1, book)
    thing = thing_of("t", ("a", None))
    thing.set_field("b", thing)
    return list(EDGE_ATOMS) + [
        Octets(), Octets((0,)), Octets((0, 255)), Octets((255, 0)),
        Pack(), Pack(1), Pack(True), Pack("1"), Pack(None), Pack(Pack()), Pack(Row()), Pack(1, 2), Pack(2, 1),
        Row(), Row(1), Row(True), Row(0), Row(False), Row(Row()), Row(Pack()), Row(1, 1), Row("a", 1),
        Row(shared, shared), Row(Row(1), Row(1)), Pack(shared, shared), Pack(Row(1), Row(1)),
        Book(), Book.of(((1, 2),)), Book.of((("1", 2),)), Book.of(((1, 2), (2, 1))), Book.of(((2, 1), (1, 2))),
        Book.of((("a", shared), ("b", shared))), Book.of((("a", Row(1)), ("b", Row(1)))), book,
        Bag(), Bag(1), Bag("1"), Bag(1, 2), Bag(1, "2"), Row(Bag(1)),
        Thing("t"), Thing("u"), thing, thing_of("t", ("a", 1)), thing_of("t", ("b", 1)), thing_of("t", ("a", True)),
        thing_of("t", ("a", 1), ("b", 2)), thing_of("t", ("b", 2), ("a", 1)),
        self_row(), self_row(1), Row(self_row()), Row(self_row(), self_row()),
        ring_by_row(Row), ring_by_row(Pack), ring_by_row(lambda row: Pack(row, row)),
        ring_by_row(lambda row: Pack(Pack(row), row)), ring_by_row(lambda row: Pack(Pack(Pack(row)))),
        ring_by_row(lambda row: Book.of((("a", row),))), ring_by_row(lambda row: thing_of("t", ("a", row))),
        ring_by_row(lambda row: thing_of("t", ("a", Pack(row)), ("b", Octets((7,))))),
    ]


def small_graphs():
    """Yield all values over at most two nodes that are Rows or Packs with at most two contents."""
    words = (1, "one", "two")
    contents = [()] + [(a,) for a in words] + list(itertools.product(words, words))
    for inner, outer in itertools.product(contents, contents):
        for kind in (Row, Pack):
            one, two = Row(), Row()
            if kind is Pack:
                # The Pack is made last, of the Row alone, so that it does not contain itself.
                two = Pack(*[one if word == "one" else 1 for word in outer])
            named = {"one": one, "two": two, 1: 1}
            for word in inner:
                one.put_last(named[word])
            if kind is Row:
                for word in outer:
                    two.put_last(named[word])
            yield one
            yield two


def nested(made, many, core):
    """Return so many nodes inside one another."""
    node = core
    for _ in range(many):
        node = made(node)
    return node


class IsValueTests(unittest.TestCase):
    def test_atoms_and_nodes_are_values(self):
        for value in samples():
            self.assertIs(is_value(value), True)
        self.assertIs(is_value(thing=None), True)

    def test_edges_of_integers_and_texts(self):
        for number in (10 ** 300 - 1, 1 - 10 ** 300):
            self.assertIs(is_value(number), True)
        for number in (10 ** 300, -(10 ** 300), 10 ** 300 + 1, 10 ** 399):
            self.assertIs(is_value(number), False)
        self.assertIs(is_value("a" * 2000), True)
        self.assertIs(is_value("a" * 2001), False)

    def test_other_objects_are_none(self):
        for thing in NEVER_VALUES + (Row, Node, InvalidValue(1)):
            self.assertIs(is_value(thing), False)
            self.assertIs(is_value(thing=thing), False)


class NodesOfTests(unittest.TestCase):
    def test_an_atom_has_no_nodes(self):
        for atom in EDGE_ATOMS:
            self.assertEqual(list(nodes_of(atom)), [])

    def test_depth_first_and_a_node_before_its_contents(self):
        leaf, octets, bag = Row("leaf"), Octets((1,)), Bag(1)
        left = Pack(1, leaf, octets)
        right = Book.of((("k", bag), (2, leaf), (3, left)))
        thing = thing_of("t", ("a", right), ("b", leaf))
        top = Row(left, None, thing, right)
        leaf.put_last(top)
        self.assertEqual(list(nodes_of(top)), [top, left, leaf, octets, thing, right, bag])
        self.assertEqual(list(nodes_of(value=thing)), [thing, right, bag, leaf, top, left, octets])

    def test_a_node_is_met_where_it_is_deepest_first(self):
        last = Row()
        inner = Row(last)
        self.assertEqual(list(nodes_of(top := Row(inner, last))), [top, inner, last])
        self.assertEqual(list(nodes_of(top := Row(last, inner))), [top, last, inner])
        self.assertEqual(list(nodes_of(top := Pack(last, last, inner, inner))), [top, last, inner])

    def test_a_node_that_contains_itself(self):
        row = self_row(1)
        self.assertEqual(list(nodes_of(row)), [row])

    def test_it_is_a_generator(self):
        self.assertTrue(inspect.isgenerator(nodes_of(1)))
        self.assertTrue(inspect.isgenerator(nodes_of(Row())))

    def test_the_error_comes_with_the_first_item(self):
        for wrong in NEVER_VALUES:
            asked = nodes_of(wrong)
            self.assertIs(caught(InvalidValue, next, asked).value, wrong)
            named = nodes_of(value=wrong)
            self.assertIs(caught(InvalidValue, list, named).value, wrong)

    def test_small_graphs_as_the_description_meets_them(self):
        for value in small_graphs():
            met = list(nodes_of(value))
            self.assertEqual([node.shape for node in met], [line[0] for line in told(value)[1]])
            self.assertEqual(len(set(met)), len(met))


class SameGraphTests(unittest.TestCase):
    def test_equal_samples_are_the_same_and_others_are_not(self):
        ours, theirs = samples(), samples()
        for at, first in enumerate(ours):
            self.assertIs(same_graph(first, first), True)
            for place, second in enumerate(theirs):
                self.assertIs(same_graph(first, second), at == place, (at, place))

    def test_true_is_not_one(self):
        for one, other in ((True, 1), (False, 0), (None, 0), (None, False), ("1", 1), ("", None)):
            for wrap in (lambda x: x, Row, Pack, lambda x: Book.of(((1, x),)), lambda x: thing_of("t", ("a", x))):
                self.assertIs(same_graph(wrap(one), wrap(other)), False)
                self.assertIs(same_graph(wrap(other), wrap(one)), False)
                self.assertIs(same_graph(wrap(one), wrap(one)), True)

    def test_the_relation_is_one_to_one(self):
        shared = Row()
        self.assertFalse(same_graph(Row(shared, shared), Row(Row(), Row())))
        self.assertFalse(same_graph(Row(Row(), Row()), Row(shared, shared)))
        crossed = Row(Row(), Row())
        one, other = crossed.parts
        self.assertTrue(same_graph(Pack(one, other, one), Pack(other, one, other)))
        self.assertFalse(same_graph(Pack(one, other, one), Pack(one, other, other)))
        self.assertFalse(same_graph(self_row(), ring_by_row(Row)))
        self.assertFalse(same_graph(ring_by_row(Row), self_row()))

    def test_the_position_in_a_ring_counts(self):
        row = Row()
        pack = Pack(row)
        row.put_last(pack)
        self.assertFalse(same_graph(row, pack))
        self.assertTrue(same_graph(Row(row, pack), Row(row, pack)))

    def test_nodes_of_both_graphs_may_be_the_same(self):
        first, second = Row(), Row()
        first.put_last(second)
        second.put_last(first)
        self.assertTrue(same_graph(first, second))
        first.put_last(1)
        self.assertFalse(same_graph(first, second))

    def test_long_values(self):
        self.assertTrue(same_graph(Row("a" * 2000, 10 ** 300 - 1), Row("a" * 2000, 10 ** 300 - 1)))
        self.assertFalse(same_graph(Row("a" * 2000), Row("a" * 1999 + "b")))
        self.assertFalse(same_graph(Octets((1,) * 2000), Octets((1,) * 1999 + (2,))))
        self.assertFalse(same_graph(Row(10 ** 300 - 1), Row(1 - 10 ** 300)))

    def test_small_graphs_as_the_descriptions_tell(self):
        values = list(small_graphs())[::5]
        words = [told(value) for value in values]
        for at, place in itertools.product(range(len(values)), repeat=2):
            self.assertIs(same_graph(values[at], values[place]), words[at] == words[place])

    def test_wrong_values(self):
        for wrong in NEVER_VALUES:
            self.assertIs(caught(InvalidValue, same_graph, wrong, 1).value, wrong)
            self.assertIs(caught(InvalidValue, same_graph, Row(), wrong).value, wrong)
            self.assertIs(caught(InvalidValue, same_graph, second=wrong, first=1).value, wrong)
        first, second = [], []
        self.assertIs(caught(InvalidValue, same_graph, first, second).value, first)
        self.assertIs(caught(InvalidValue, same_graph, first=second, second=first).value, second)


class TwinOfTests(unittest.TestCase):
    def assert_twin(self, value):
        before = told(value)
        twin = twin_of(value)
        self.assertEqual(told(twin), before)
        self.assertEqual(told(value), before)
        self.assertIs(same_graph(value, twin), True)
        self.assertFalse(set(nodes_of(value)) & set(nodes_of(twin)))

    def test_samples(self):
        for value in samples():
            self.assert_twin(value)

    def test_small_graphs(self):
        for value in small_graphs():
            self.assert_twin(value)

    def test_an_atom_is_its_own_twin(self):
        for atom in EDGE_ATOMS:
            self.assertIs(twin_of(atom), atom)
        self.assertEqual(twin_of(value=7), 7)

    def test_packs_that_share_packs(self):
        pack = Pack(1)
        for _ in range(40):
            pack = Pack(pack, pack)
        self.assert_twin(pack)
        self.assertEqual(len(list(nodes_of(twin_of(pack)))), 41)

    def test_packs_in_rings_by_way_of_every_class_that_changes(self):
        row, book, thing = Row(), Book(), Thing("t")
        inner = Pack(row, book, thing)
        outer = Pack(inner, row, inner)
        row.put_last(outer)
        book.enter(1, inner)
        book.enter("1", Pack(outer))
        thing.set_field("p", outer)
        for value in (row, book, thing, inner, outer):
            self.assert_twin(value)

    def test_a_twin_is_independent(self):
        row = Row(Book.of(((1, 2),)), thing_of("t", ("a", 1)))
        twin = twin_of(row)
        twin.put_last(3)
        twin.parts[0].change(1, "new")
        twin.parts[1].set_field("a", 2)
        self.assertEqual(len(row.parts), 2)
        self.assertEqual(row.parts[0].pairs, ((1, 2),))
        self.assertEqual(row.parts[1].fields, (("a", 1),))

    def test_wrong_values(self):
        for wrong in NEVER_VALUES:
            self.assertIs(caught(InvalidValue, twin_of, wrong).value, wrong)
            self.assertIs(caught(InvalidValue, twin_of, value=wrong).value, wrong)


class DepthTests(unittest.TestCase):
    """Graphs that are as deep and as large as the document lets them be."""

    WRAPS = (
        Row, Pack, lambda x: Pack(1, x, x), lambda x: Row(x, x), lambda x: Book.of((("a", x),)),
        lambda x: thing_of("t", ("a", x)), lambda x: Row(Pack(x)),
    )

    def assert_alike(self, make, many):
        value, other = make(), make()
        self.assertEqual(len(list(nodes_of(value))), many)
        self.assertIs(same_graph(value, other), True)
        twin = twin_of(value)
        self.assertIs(same_graph(value, twin), True)
        self.assertEqual(len(list(nodes_of(twin))), many)
        self.assertFalse(set(nodes_of(value)) & set(nodes_of(twin)))

    def test_nodes_inside_one_another(self):
        for wrap in self.WRAPS[:-1]:
            self.assert_alike(lambda: nested(wrap, 3000, "core"), 3000)
            self.assert_alike(lambda: nested(wrap, 3999, Octets((1,))), 4000)
        self.assert_alike(lambda: nested(self.WRAPS[-1], 2000, 1), 4000)

    def test_rings(self):
        for wrap in self.WRAPS[:-1]:
            self.assert_alike(lambda: ring_by_row(lambda row: nested(wrap, 2999, row)), 3000)

    def test_a_difference_far_inside_is_found(self):
        for wrap in self.WRAPS:
            for one, other in ((1, True), (1, 2), (Row(), Pack()), (Octets((1,)), Octets((2,)))):
                self.assertFalse(same_graph(nested(wrap, 1500, one), nested(wrap, 1500, other)))
            self.assertFalse(same_graph(nested(wrap, 1500, 1), nested(wrap, 1499, 1)))
            open_end = nested(wrap, 1500, Row(Row()))
            closed = ring_by_row(lambda row: nested(wrap, 1500, row))
            self.assertFalse(same_graph(open_end, closed))

    def test_a_wide_graph(self):
        def wide():
            rows = [Row(number) for number in range(3999)]
            return Row(*rows, *rows[::-1])
        self.assert_alike(wide, 4000)

    def test_everything_contains_everything(self):
        def dense():
            rows = [Row() for _ in range(200)]
            for row in rows:
                for part in rows:
                    row.put_last(part)
            return rows[0]
        self.assert_alike(dense, 200)


if __name__ == "__main__":
    unittest.main()
