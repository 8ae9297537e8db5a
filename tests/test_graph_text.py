"""Point 26: graph_text."""

import inspect
import random
import unittest

from brinejar.errors import InvalidValue, TooDeep
from brinejar.graphs import same_graph, twin_of
from brinejar.nodes import Bag, Book, Octets, Pack, Row, Thing
from brinejar.notation import graph_text, read_graph
from tests.helpers import NEVER_VALUES, caught
from tests.test_dump_errors import nested
from tests.test_graphs import samples
from tests.test_makers import thing_with
from tests.test_round_trips import random_graph


class GraphTextTests(unittest.TestCase):
    def assert_text(self, value, expected):
        """Check the text of a value, and that it is read back."""
        self.assertEqual(graph_text(value), expected)
        self.assertIs(type(graph_text(value)), str)
        self.assertTrue(same_graph(read_graph(expected), value))

    def test_example(self):
        row = Row()
        pack = Pack(row, "a")
        row.put_last(pack)
        self.assert_text(pack, '#0=([#0], "a")')

    def test_atoms(self):
        for atom, text in ((None, "None"), (True, "True"), (False, "False"), (0, "0"), (1, "1"), (-1, "-1"),
                           (10 ** 300 - 1, "9" * 300), (1 - 10 ** 300, "-" + "9" * 300), (10 ** 299,
                                                                                          "1" + "0" * 299)):
            self.assert_text(atom, text)

    def test_texts(self):
        for text, expected in (("", '""'), ("a", '"a"'), ('"', r'"\""'), ("\\", r'"\\"'), ("\n", r'"\n"'),
                               ("\\n", r'"\\n"'), ('\\"', r'"\\\""'), ('a"b\\c\nd ~', r'"a\"b\\c\nd ~"'),
                               ("a" * 2000, '"' + "a" * 2000 + '"'), ('"' * 2000, '"' + '\\"' * 2000 + '"'),
                               ("None", '"None"'), ("#0=[1, (2,)] {}: <>", '"#0=[1, (2,)] {}: <>"')):
            self.assert_text(text, expected)

    def test_octets(self):
        self.assert_text(Octets(), "<>")
        self.assert_text(Octets((0, 9, 10, 171, 255)), "<00090aabff>")
        self.assert_text(Octets((7,) * 2000), "<" + "07" * 2000 + ">")

    def test_packs_and_rows(self):
        self.assert_text(Pack(), "()")
        self.assert_text(Pack(1), "(1,)")
        self.assert_text(Pack(1, 2), "(1, 2)")
        self.assert_text(Pack(1, None, "a"), '(1, None, "a")')
        self.assert_text(Pack(Pack(Pack())), "(((),),)")
        self.assert_text(Row(), "[]")
        self.assert_text(Row(1), "[1]")
        self.assert_text(Row(1, True, Row(), Pack()), "[1, True, [], ()]")

    def test_books_and_bags(self):
        self.assert_text(Book(), "{}")
        self.assert_text(Book.of(((1, 2),)), "{1: 2}")
        self.assert_text(Book.of((("b", 1), ("a", Book()), (-5, None))), '{"b": 1, "a": {}, -5: None}')
        self.assert_text(Bag(), "bag{}")
        self.assert_text(Bag(1), "bag{1}")
        self.assert_text(Bag("b", 10, "a", -3), 'bag{-3, 10, "a", "b"}')

    def test_things(self):
        self.assert_text(Thing("t"), "t{}")
        self.assert_text(thing_with("shop.item", ("n", 3)), 'shop.item{"n": 3}')
        self.assert_text(thing_with("A.b_9", ("", 3), ("b", Thing("t"))), 'A.b_9{"": 3, "b": t{}}')
        for brand in ("None", "True", "bag.", "bags", "a" * 40):
            self.assert_text(Thing(brand), brand + "{}")

    def test_keys_and_labels_have_escapes(self):
        self.assert_text(Book.of((('"', 1),)), r'{"\"": 1}')
        self.assert_text(Bag("\n"), r'bag{"\n"}')
        self.assert_text(thing_with("t", ("\\", 1)), r't{"\\": 1}')


class NumberTests(GraphTextTests):
    def test_a_node_that_occurs_more_than_once(self):
        for make in (Row, Pack, Book, Bag, Octets, lambda: Thing("t")):
            node = make()
            text = graph_text(node)
            self.assertNotIn("#", text)
            self.assert_text(Row(node, node), f"[#0={text}, #0]")
            self.assert_text(Pack(node, make(), node), f"(#0={text}, {text}, #0)")

    def test_atoms_have_no_numbers(self):
        self.assert_text(Row("salt", "salt", 5, 5, None, None), '["salt", "salt", 5, 5, None, None]')

    def test_the_value_itself_occurs_once(self):
        row = Row()
        self.assert_text(row, "[]")
        row.put_last(row)
        self.assert_text(row, "#0=[#0]")
        self.assert_text(Pack(row), "(#0=[#0],)")
        row.put_last(row)
        self.assert_text(row, "#0=[#0, #0]")

    def test_numbers_in_the_order_of_the_first_occurrences(self):
        one, two, three = Row(1), Row(2), Row(3)
        self.assert_text(Row(one, two, three, three, two, one), "[#0=[1], #1=[2], #2=[3], #2, #1, #0]")
        self.assert_text(Row(Row(two), one, three, one, two), "[[#0=[2]], #1=[1], [3], #1, #0]")
        outer = Row(one)
        self.assert_text(Row(outer, one, outer), "[#0=[#1=[1]], #1, #0]")

    def test_more_than_ten_numbers(self):
        rows = [Row() for _ in range(12)]
        expected = ", ".join([f"#{n}=[]" for n in range(12)] + [f"#{n}" for n in range(12)])
        self.assert_text(Row(*rows, *rows), f"[{expected}]")

    def test_in_all_places_of_contents(self):
        shared = Octets((1,))
        self.assert_text(Book.of(((1, shared), (2, shared))), "{1: #0=<01>, 2: #0}")
        self.assert_text(thing_with("t", ("a", shared), ("b", Pack(shared))), 't{"a": #0=<01>, "b": (#0,)}')
        thing = Thing("t")
        thing.set_field("self", thing)
        self.assert_text(thing, '#0=t{"self": #0}')
        book = Book()
        book.enter("self", Pack(book))
        self.assert_text(book, '#0={"self": (#0,)}')

    def test_a_pack_that_contains_itself(self):
        row = Row()
        inner = Pack(row)
        pack = Pack(inner, 1)
        row.put_last(pack)
        row.put_last(inner)
        self.assert_text(pack, "#0=(#1=([#0, #1],), 1)")
        self.assert_text(row, "#0=[(#1=(#0,), 1), #1]")


class ErrorTests(unittest.TestCase):
    def test_what_is_no_value(self):
        for wrong in NEVER_VALUES:
            self.assertIs(caught(InvalidValue, graph_text, wrong).value, wrong)

    def test_50_nodes_may_be_open_at_once(self):
        for core in (1, "salt"):
            for wrap in (Row, Pack, lambda value: Book.of(((1, value),)), lambda value: thing_with("t", ("n",
                                                                                                         value))):
                graph_text(nested(50, core, wrap))
                self.assertEqual(caught(TooDeep, graph_text, nested(51, core, wrap)).limit, 50)
        for core in (Octets(), Bag(), Row(), Pack(), Book(), Thing("t")):
            graph_text(nested(49, core))
            self.assertEqual(caught(TooDeep, graph_text, nested(50, core)).limit, 50)

    def test_what_is_written_before_is_not_opened_again(self):
        inner = nested(48, Row())
        graph_text(Row(inner, inner))
        deep = nested(49, inner.parts[0])
        graph_text(Row(inner, nested(48, inner)))
        caught(TooDeep, graph_text, Row(nested(2, inner), inner))
        caught(TooDeep, graph_text, deep)
        ring = Row()
        ring.put_last(nested(49, ring))
        self.assertEqual(graph_text(ring), "#0=" + "[" * 50 + "#0" + "]" * 50)

    def test_what_stands_ahead_does_not_count(self):
        for many in (1, 2, 60):
            ahead = [Row(Octets()) for _ in range(many)]
            graph_text(Row(*ahead, nested(49, 1)))
            caught(TooDeep, graph_text, Row(*ahead, nested(50, 1)))

    def test_very_deep_graphs(self):
        caught(TooDeep, graph_text, nested(300, 1))

    def test_many_nodes_one_behind_the_other(self):
        self.assertEqual(graph_text(Row(*[Row() for _ in range(299)])), "[" + ", ".join(["[]"] * 299) + "]")


class FactTests(unittest.TestCase):
    def test_equal_texts_are_the_same_graph(self):
        chance = random.Random(4)
        values = samples() + [random_graph(chance, 3) for _ in range(60)] + [twin_of(value) for value in samples()]
        texts = [graph_text(value) for value in values]
        for one, first in enumerate(values):
            for two, second in enumerate(values):
                self.assertEqual(texts[one] == texts[two], same_graph(first, second))

    def test_texts_are_read_back(self):
        chance = random.Random(7)
        for value in samples() + [random_graph(chance, chance.randrange(1, 12)) for _ in range(300)]:
            result = read_graph(graph_text(value))
            self.assertTrue(same_graph(result, value))
            self.assertEqual(graph_text(result), graph_text(value))

    def test_as_it_is_written(self):
        self.assertEqual(graph_text.__module__, "brinejar.notation")
        self.assertEqual(str(inspect.signature(graph_text)), "(value)")
        self.assertEqual(graph_text(value=Row()), "[]")


if __name__ == "__main__":
    unittest.main()
