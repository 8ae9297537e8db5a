"""Promise 7: what all nodes have; and the interface as it is written (promise 9)."""

import inspect
import unittest

from brinejar import graphs, nodes
from brinejar.nodes import Bag, Book, Node, Octets, Pack, Row, Thing

# Each class with the names of its constructor, its properties, methods and class methods.
INTERFACE = {
    "Node": ((), ("shape",), {"children": ()}, {}),
    "Octets": (("numbers",), ("numbers",), {}, {}),
    "Pack": (("parts",), ("parts",), {}, {"of": ("parts",)}),
    "Row": (("parts",), ("parts",), {"put_last": ("value",), "put_at": ("index", "value")}, {"of": ("parts",)}),
    "Book": ((), ("pairs",), {"enter": ("key", "value"), "change": ("key", "value"), "value_of": ("key",)},
             {"of": ("pairs",)}),
    "Bag": (("members",), ("members",), {}, {"of": ("members",)}),
    "Thing": (("brand",), ("brand", "fields"), {"set_field": ("label", "value"), "field": ("label",)}, {}),
}
FUNCTIONS = {"is_value": ("thing",), "nodes_of": ("value",), "same_graph": ("first", "second"),
             "twin_of": ("value",)}


def one_of_each():
    """Return a node of each class with some contents, by the words of their shapes."""
    row = Row(1, "a")
    row.put_last(row)
    thing = Thing("t")
    thing.set_field("n", row)
    thing.set_field("m", 2)
    return {
        "octets": Octets((1, 2)), "pack": Pack(row, None, row), "row": row,
        "book": Book.of((("k", row), (1, True))), "bag": Bag("a", 2), "thing": thing,
    }


class NodeTests(unittest.TestCase):
    def test_shapes(self):
        for shape, node in one_of_each().items():
            self.assertEqual(node.shape, shape)
            self.assertIsInstance(node, Node)
        empty = (Octets(), Pack(), Row(), Book(), Bag(), Thing("a"))
        self.assertEqual([node.shape for node in empty], ["octets", "pack", "row", "book", "bag", "thing"])

    def test_shape_cannot_be_assigned(self):
        for node in one_of_each().values():
            with self.assertRaises(AttributeError):
                node.shape = "row"

    def test_the_classes_are_directly_under_node(self):
        for node in one_of_each().values():
            self.assertEqual(type(node).__bases__, (Node,))

    def test_children_in_order(self):
        each = one_of_each()
        row = each["row"]
        self.assertEqual(list(each["octets"].children()), [])
        self.assertEqual(list(each["pack"].children()), [row, None, row])
        self.assertEqual(list(row.children()), [1, "a", row])
        self.assertEqual(list(each["book"].children()), ["k", row, 1, True])
        self.assertIs(list(each["book"].children())[3], True)
        self.assertEqual(list(each["bag"].children()), [2, "a"])
        self.assertEqual(list(each["thing"].children()), ["n", row, "m", 2])

    def test_children_of_empty_nodes(self):
        for node in (Octets(), Pack(), Row(), Book(), Bag(), Thing("a")):
            self.assertEqual(list(node.children()), [])

    def test_children_is_a_generator(self):
        for node in one_of_each().values():
            self.assertTrue(inspect.isgenerator(node.children()))

    def test_only_the_same_object_is_equal(self):
        each, others = one_of_each(), one_of_each()
        for shape, node in each.items():
            self.assertTrue(node == node)
            self.assertFalse(node != node)
            self.assertFalse(node == others[shape])
            self.assertTrue(node != others[shape])
        for make in (Octets, Pack, Row, Book, Bag):
            self.assertNotEqual(make(), make())

    def test_nodes_can_be_keys(self):
        each, others = one_of_each(), one_of_each()
        table = {node: shape for shape, node in each.items()}
        each["row"].put_at(0, "changed")
        for shape, node in each.items():
            self.assertEqual(table[node], shape)
            self.assertNotIn(others[shape], table)


class InterfaceTests(unittest.TestCase):
    def test_classes_are_defined_as_written(self):
        for name, (given, properties, methods, class_methods) in INTERFACE.items():
            made = getattr(nodes, name)
            self.assertEqual(made.__module__, "brinejar.nodes")
            self.assertEqual(tuple(inspect.signature(made).parameters), given, name)
            for word in properties:
                self.assertIsInstance(vars(made)[word], property)
            for word, parameters in methods.items():
                self.assertEqual(tuple(inspect.signature(vars(made)[word]).parameters), ("self",) + parameters)
            for word, parameters in class_methods.items():
                self.assertIsInstance(vars(made)[word], classmethod)
                self.assertEqual(tuple(inspect.signature(getattr(made, word)).parameters), parameters)

    def test_functions_are_defined_as_written(self):
        for name, parameters in FUNCTIONS.items():
            found = getattr(graphs, name)
            self.assertEqual(found.__module__, "brinejar.graphs")
            self.assertEqual(tuple(inspect.signature(found).parameters), parameters)


if __name__ == "__main__":
    unittest.main()
