"""Promises 2 and 4: values in Packs and Rows."""

import unittest

from brinejar.errors import InvalidIndex, InvalidValue
from brinejar.nodes import Bag, Book, Octets, Pack, Row, Thing
from tests.helpers import EDGE_ATOMS, NEVER_VALUES, Stranger, caught

NO_TUPLES = ([], [1], {}, {1: 2}, None, 1, True, "ab", b"ab", range(3), Stranger())


class PackAndRowTests(unittest.TestCase):
    def test_parts_are_kept(self):
        nodes = (Octets(), Pack(), Row(), Book(), Bag(), Thing("a"))
        for made in (Pack, Row):
            for parts in ((), (1,), (True, 1, "1", None), EDGE_ATOMS, nodes, (nodes[0], nodes[0])):
                for node in (made(*parts), made.of(parts), made.of(parts=parts)):
                    self.assertIsInstance(node, made)
                    self.assertIsInstance(node.parts, tuple)
                    self.assertEqual(len(node.parts), len(parts))
                    for kept, part in zip(node.parts, parts):
                        self.assertIs(kept, part)

    def test_wrong_values(self):
        for made in (Pack, Row):
            for wrong in NEVER_VALUES:
                for given in ((wrong,), (1, wrong), (wrong, 1), (None, True, wrong)):
                    self.assertIs(caught(InvalidValue, made, *given).value, wrong)
                    self.assertIs(caught(InvalidValue, made.of, given).value, wrong)

    def test_the_first_wrong_argument_counts(self):
        first, second = [], {}
        for made in (Pack, Row):
            self.assertIs(caught(InvalidValue, made, 1, first, second).value, first)
            self.assertIs(caught(InvalidValue, made.of, (second, first)).value, second)

    def test_of_takes_one_tuple(self):
        for made in (Pack, Row):
            for given in NO_TUPLES + (made(1),):
                self.assertIs(caught(InvalidValue, made.of, given).value, given)
                self.assertIs(caught(InvalidValue, made.of, parts=given).value, given)

    def test_of_makes_a_new_node(self):
        for made in (Pack, Row):
            node = made(1)
            self.assertNotEqual(made.of(node.parts), node)

    def test_parts_cannot_be_assigned(self):
        for made in (Pack, Row):
            with self.assertRaises(AttributeError):
                made(1).parts = (2,)

    def test_a_pack_has_no_changes(self):
        self.assertFalse(hasattr(Pack, "put_last") or hasattr(Pack, "put_at"))


class RowChangeTests(unittest.TestCase):
    def test_the_example(self):
        row = Row(1, "ab")
        row.put_last(row)
        self.assertEqual([len(row.parts), row.parts[2] == row], [3, True])

    def test_put_last(self):
        row = Row()
        for value in EDGE_ATOMS + (Pack(), Book()):
            self.assertIsNone(row.put_last(value))
            self.assertIs(row.parts[-1], value)
        self.assertIsNone(row.put_last(value=7))
        self.assertEqual(len(row.parts), len(EDGE_ATOMS) + 3)

    def test_put_last_of_a_wrong_value_changes_nothing(self):
        row = Row(1, 2)
        for wrong in NEVER_VALUES:
            self.assertIs(caught(InvalidValue, row.put_last, wrong).value, wrong)
            self.assertIs(caught(InvalidValue, row.put_last, value=wrong).value, wrong)
            self.assertEqual(row.parts, (1, 2))

    def test_put_at(self):
        row = Row(1, 2, 3)
        self.assertIsNone(row.put_at(0, "a"))
        self.assertIsNone(row.put_at(index=2, value=row))
        self.assertEqual(row.parts, ("a", 2, row))
        row.put_at(1, None)
        self.assertEqual(row.parts, ("a", None, row))

    def test_put_at_a_wrong_index(self):
        row = Row(1, 2)
        for wrong in (2, 3, -1, -2, 10 ** 300, True, False, None, "0", (0,), [0], {}, 0.0, Row(), Stranger()):
            self.assertIs(caught(InvalidIndex, row.put_at, wrong, 7).index, wrong)
            self.assertIs(caught(InvalidIndex, row.put_at, index=wrong, value=7).index, wrong)
            self.assertEqual(row.parts, (1, 2))
        self.assertEqual(caught(InvalidIndex, Row().put_at, 0, 7).index, 0)

    def test_put_at_of_a_wrong_value(self):
        row = Row(1, 2)
        for wrong in NEVER_VALUES:
            self.assertIs(caught(InvalidValue, row.put_at, 1, wrong).value, wrong)
            self.assertEqual(row.parts, (1, 2))

    def test_the_index_counts_before_the_value(self):
        row = Row(1)
        self.assertEqual(caught(InvalidIndex, row.put_at, 1, []).index, 1)
        self.assertIs(caught(InvalidIndex, row.put_at, True, []).index, True)

    def test_what_was_returned_before_stays(self):
        row = Row(1, 2)
        before = row.parts
        row.put_last(3)
        row.put_at(0, "a")
        self.assertEqual(before, (1, 2))
        self.assertEqual(row.parts, ("a", 2, 3))

    def test_rows_of_one_tuple_are_independent(self):
        parts = (1, 2)
        one, other = Row.of(parts), Row.of(parts)
        one.put_at(0, 7)
        self.assertEqual((other.parts, parts), ((1, 2), (1, 2)))


if __name__ == "__main__":
    unittest.main()
