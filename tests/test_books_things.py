"""Promises 2, 5 and 6: Books, Things and brands."""

import string
import unittest

from brinejar.errors import InvalidBrand, InvalidKey, InvalidValue, KeyTaken, NoEntry
from brinejar.nodes import Bag, Book, Octets, Pack, Row, Thing
from tests.helpers import (EDGE_ATOMS, EDGE_INTEGERS, EDGE_TEXTS, NEVER_KEYS, NEVER_VALUES, Stranger,
                           caught)

NODES = (Octets(), Pack(), Row(), Book(), Bag(), Thing("a"))


class BookTests(unittest.TestCase):
    def test_pairs_in_the_order_of_entry(self):
        book = Book()
        self.assertEqual(book.pairs, ())
        self.assertIsNone(book.enter("b", 1))
        self.assertIsNone(book.enter(key="a", value=2))
        book.enter(-3, None)
        self.assertEqual(book.pairs, (("b", 1), ("a", 2), (-3, None)))
        self.assertIsInstance(book.pairs, tuple)
        self.assertTrue(all(isinstance(pair, tuple) for pair in book.pairs))

    def test_edge_keys_and_values(self):
        book = Book()
        for key in EDGE_INTEGERS + EDGE_TEXTS:
            book.enter(key, key)
            self.assertEqual(book.value_of(key), key)
        for value in EDGE_ATOMS + NODES + (book,):
            book.change(1, value)
            self.assertIs(book.value_of(1), value)

    def test_one_and_its_text_are_different_keys(self):
        book = Book.of(((1, "number"), ("1", "text")))
        self.assertEqual((book.value_of(1), book.value_of("1")), ("number", "text"))

    def test_true_is_no_key(self):
        book = Book.of(((1, 2), (0, 3)))
        for call in (book.value_of, lambda key: book.enter(key, 1), lambda key: book.change(key, 1)):
            for key in (True, False):
                self.assertIs(caught(InvalidKey, call, key).key, key)
        self.assertEqual(book.pairs, ((1, 2), (0, 3)))

    def test_wrong_keys(self):
        book = Book.of(((1, 2),))
        for key in NEVER_KEYS + NODES:
            self.assertIs(caught(InvalidKey, book.enter, key, 1).key, key)
            self.assertIs(caught(InvalidKey, book.change, key=key, value=1).key, key)
            self.assertIs(caught(InvalidKey, book.value_of, key).key, key)
            self.assertIs(caught(InvalidKey, book.value_of, key=key).key, key)
            self.assertEqual(book.pairs, ((1, 2),))

    def test_enter_raises_in_order(self):
        book = Book.of(((1, 2),))
        self.assertEqual(caught(InvalidKey, book.enter, [], []).key, [])
        self.assertEqual(caught(KeyTaken, book.enter, 1, 3).key, 1)
        self.assertEqual(caught(KeyTaken, book.enter, 1, []).key, 1)
        for wrong in NEVER_VALUES:
            self.assertIs(caught(InvalidValue, book.enter, 2, wrong).value, wrong)
        self.assertEqual(book.pairs, ((1, 2),))
        book.enter(2, 3)
        self.assertEqual(book.pairs, ((1, 2), (2, 3)))

    def test_change_keeps_the_place(self):
        book = Book.of(((1, 2), ("a", 3), (2, 4)))
        self.assertIsNone(book.change("a", "new"))
        self.assertIsNone(book.change(key=1, value=None))
        self.assertEqual(book.pairs, ((1, None), ("a", "new"), (2, 4)))

    def test_change_raises_in_order(self):
        book = Book.of(((1, 2),))
        self.assertEqual(caught(InvalidKey, book.change, {}, []).key, {})
        self.assertEqual(caught(NoEntry, book.change, 2, 3).key, 2)
        self.assertEqual(caught(NoEntry, book.change, "1", []).key, "1")
        for wrong in NEVER_VALUES:
            self.assertIs(caught(InvalidValue, book.change, 1, wrong).value, wrong)
        self.assertEqual(book.pairs, ((1, 2),))

    def test_value_of_a_missing_key(self):
        book = Book.of((("a", 1),))
        self.assertEqual(caught(NoEntry, book.value_of, "b").key, "b")
        self.assertEqual(caught(NoEntry, book.value_of, key=10 ** 300 - 1).key, 10 ** 300 - 1)
        self.assertEqual(caught(NoEntry, Book().value_of, "").key, "")

    def test_what_was_returned_before_stays(self):
        book = Book.of(((1, 2),))
        before = book.pairs
        book.change(1, 3)
        book.enter(2, 4)
        self.assertEqual(before, ((1, 2),))

    def test_of_takes_a_tuple_of_pairs(self):
        self.assertEqual(Book.of(()).pairs, ())
        self.assertEqual(Book.of(pairs=(("b", 1), (2, "x"))).pairs, (("b", 1), (2, "x")))
        wrong = ([], {}, {1: 2}, None, 1, True, "ab", Book(), Stranger(), [(1, 2)], (1,), ("ab",), (None,),
                 ([1, 2],), ((1, 2), [3, 4]), ((1, 2, 3),), ((1,),), ((),), ((1, 2), 3))
        for given in wrong:
            self.assertIs(caught(InvalidValue, Book.of, given).value, given)
            self.assertIs(caught(InvalidValue, Book.of, pairs=given).value, given)

    def test_of_asks_for_the_pairs_before_their_contents(self):
        given = ((True, []), (1, 2, 3))
        self.assertIs(caught(InvalidValue, Book.of, given).value, given)

    def test_of_raises_what_enter_raises_pair_by_pair(self):
        self.assertIs(caught(InvalidKey, Book.of, ((1, 2), (True, []))).key, True)
        self.assertEqual(caught(KeyTaken, Book.of, ((1, 2), (1, []), (None, 3))).key, 1)
        self.assertEqual(caught(InvalidValue, Book.of, ((1, []), (1, 2), (None, 3))).value, [])

    def test_a_book_can_contain_itself(self):
        book = Book()
        book.enter("self", book)
        self.assertEqual(book.value_of("self"), book)

    def test_books_are_independent(self):
        one, other = Book(), Book()
        one.enter(1, 2)
        self.assertEqual(other.pairs, ())


class BrandTests(unittest.TestCase):
    def test_brands(self):
        signs = string.ascii_letters + string.digits + "._"
        brands = ["a", "Z", "a" * 40, "a.b_C9", "bags", "Bag", "bag.", "a.", "a_", "ba", "A..__9"]
        brands += list(string.ascii_letters) + ["x" + sign for sign in signs]
        for brand in brands:
            self.assertEqual(Thing(brand).brand, brand)
            self.assertEqual(Thing(brand=brand).brand, brand)

    def test_wrong_brands(self):
        wrong = ["", "a" * 41, "bag", "1a", "_a", ".a", "a b", " a", "a ", "a\n", "a-b", "a{", "a/b", "a~",
                 None, True, False, 1, (), ("a",), [], ["a"], {}, b"a", Row(), Thing("a"), Stranger()]
        wrong += ["a" + sign for sign in string.punctuation if sign not in "._"]
        for brand in wrong:
            self.assertIs(caught(InvalidBrand, Thing, brand).given, brand)
            self.assertIs(caught(InvalidBrand, Thing, brand=brand).given, brand)


class ThingTests(unittest.TestCase):
    def test_fields_in_the_order_of_their_first_setting(self):
        thing = Thing("shop.item")
        self.assertEqual(thing.fields, ())
        self.assertIsNone(thing.set_field("n", 1))
        self.assertIsNone(thing.set_field(label="a", value=thing))
        thing.set_field("", None)
        self.assertEqual(thing.fields, (("n", 1), ("a", thing), ("", None)))
        self.assertIsInstance(thing.fields, tuple)

    def test_a_field_that_is_set_again_keeps_its_place(self):
        thing = Thing("t")
        for label, value in (("b", 1), ("a", 2), ("b", 3)):
            thing.set_field(label, value)
        self.assertEqual(thing.fields, (("b", 3), ("a", 2)))

    def test_edge_labels_and_values(self):
        thing = Thing("t")
        for label in EDGE_TEXTS:
            for value in EDGE_ATOMS + NODES:
                thing.set_field(label, value)
                self.assertIs(thing.field(label), value)
                self.assertIs(thing.field(label=label), value)

    def test_wrong_labels(self):
        thing = Thing("t")
        thing.set_field("1", 2)
        for label in NEVER_KEYS + NODES + EDGE_INTEGERS:
            self.assertIs(caught(InvalidKey, thing.set_field, label, 1).key, label)
            self.assertIs(caught(InvalidKey, thing.set_field, label=label, value=[]).key, label)
            self.assertIs(caught(InvalidKey, thing.field, label).key, label)
            self.assertEqual(thing.fields, (("1", 2),))

    def test_wrong_values(self):
        thing = Thing("t")
        thing.set_field("a", 2)
        for wrong in NEVER_VALUES:
            self.assertIs(caught(InvalidValue, thing.set_field, "a", wrong).value, wrong)
            self.assertIs(caught(InvalidValue, thing.set_field, "b", wrong).value, wrong)
            self.assertEqual(thing.fields, (("a", 2),))

    def test_a_missing_field(self):
        thing = Thing("t")
        thing.set_field("a", 2)
        self.assertEqual(caught(NoEntry, thing.field, "b").key, "b")
        self.assertEqual(caught(NoEntry, thing.field, label="").key, "")

    def test_what_was_returned_before_stays(self):
        thing = Thing("t")
        thing.set_field("a", 2)
        before = thing.fields
        thing.set_field("a", 3)
        thing.set_field("b", 4)
        self.assertEqual(before, (("a", 2),))

    def test_brand_and_fields_cannot_be_assigned(self):
        with self.assertRaises(AttributeError):
            Thing("a").brand = "b"
        with self.assertRaises(AttributeError):
            Thing("a").fields = ()

    def test_things_are_independent(self):
        one, other = Thing("t"), Thing("t")
        one.set_field("a", 1)
        self.assertEqual(other.fields, ())


if __name__ == "__main__":
    unittest.main()
