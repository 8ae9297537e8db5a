"""The ready hooks: what they make, take apart and build, and their errors."""

import unittest

from brinejar.errors import InvalidBrand, InvalidKey, InvalidValue
from brinejar.makers import Fields, Parts, Refill, Single, Whole
from brinejar.nodes import Bag, Book, Octets, Pack, Row, Thing
from tests.helpers import EDGE_TEXTS, NEVER_KEYS, caught
from tests.test_registry import NEVER_BRANDS

NEVER_LABELS = NEVER_KEYS + (0, 1, -1)


def thing_with(brand, *pairs):
    """Return a Thing with these fields."""
    thing = Thing(brand)
    for label, value in pairs:
        thing.set_field(label, value)
    return thing


class LabelTests(unittest.TestCase):
    def makers(self):
        return (lambda *labels: Fields("a", *labels), Parts)

    def test_what_is_no_text_is_no_label(self):
        for make in self.makers():
            for wrong in NEVER_LABELS:
                self.assertIs(caught(InvalidKey, make, "x", wrong, "x").key, wrong)

    def test_a_label_occurs_once(self):
        for make in self.makers():
            self.assertEqual(caught(InvalidKey, make, "x", "y", "x", None).key, "x")
            self.assertEqual(caught(InvalidKey, make, "x", "y", "y", "x").key, "y")
            self.assertIs(caught(InvalidKey, make, "x", "y", None, "x").key, None)

    def test_all_texts_are_labels(self):
        for make in self.makers():
            make(*EDGE_TEXTS)


class FieldsTests(unittest.TestCase):
    def test_a_new_thing_with_these_fields(self):
        row = Row()
        hook = Fields("shop.item", "n", "", "row")
        first, second = hook((3, None, row)), hook((True, 2, 1))
        self.assertEqual((first.brand, first.fields), ("shop.item", (("n", 3), ("", None), ("row", row))))
        self.assertEqual(second.fields, (("n", True), ("", 2), ("row", 1)))
        self.assertEqual((type(first), type(second)), (Thing, Thing))
        self.assertNotEqual(hook((1, 2, 3)), hook((1, 2, 3)))

    def test_without_labels(self):
        thing = Fields("a")(())
        self.assertEqual((thing.brand, thing.fields), ("a", ()))

    def test_brand_by_name(self):
        self.assertEqual(Fields(brand="a")(()).brand, "a")

    def test_no_brand(self):
        for wrong in NEVER_BRANDS:
            self.assertIs(caught(InvalidBrand, Fields, wrong).given, wrong)
            self.assertIs(caught(InvalidBrand, Fields, wrong, "x", "x", None).given, wrong)

    def test_a_label_of_the_greatest_number(self):
        labels = [f"label{number}" for number in range(20)]
        thing = Fields("a", *labels)(tuple(range(20)))
        self.assertEqual(thing.fields, tuple(zip(labels, range(20))))


class SingleTests(unittest.TestCase):
    def test_always_the_same_thing(self):
        thing = Thing("a")
        hook = Single(thing)
        for arguments in ((), (1,), (None, Row()), (thing,)):
            self.assertIs(hook(arguments), thing)
        self.assertIs(Single(thing=thing)(()), thing)

    def test_nothing_but_a_thing(self):
        for wrong in NEVER_LABELS + ("", Row(), Pack(), Book(), Bag(), Octets()):
            self.assertIs(caught(InvalidValue, Single, wrong).value, wrong)


class PartsTests(unittest.TestCase):
    def test_the_fields_in_the_order_of_the_labels(self):
        row = Row()
        thing = thing_with("a", ("x", 1), ("y", row), ("z", True))
        self.assertEqual(Parts("z", "x")(thing), ((True, 1), None))
        self.assertEqual(Parts("y")(thing), ((row,), None))
        self.assertEqual(Parts()(thing), ((), None))
        self.assertIs(type(Parts("x")(thing)), tuple)


class WholeTests(unittest.TestCase):
    def test_a_new_book_of_the_fields(self):
        row = Row()
        thing = thing_with("a", ("x", 1), ("y", row))
        arguments, state = Whole()(thing)
        self.assertEqual((arguments, type(state)), ((), Book))
        self.assertEqual(state.pairs, (("x", 1), ("y", row)))
        self.assertNotEqual(Whole()(thing)[1], state)
        state.change("x", 2)
        self.assertEqual(thing.field("x"), 1)

    def test_without_fields(self):
        arguments, state = Whole()(Thing("a"))
        self.assertEqual((arguments, type(state), state.pairs), ((), Book, ()))


class RefillTests(unittest.TestCase):
    def test_fields_in_their_old_place_or_at_the_end(self):
        thing = thing_with("a", ("x", 1), ("y", 2))
        Refill()(thing, Book.of((("z", 3), ("x", None), ("w", thing))))
        self.assertEqual(thing.fields, (("x", None), ("y", 2), ("z", 3), ("w", thing)))

    def test_without_pairs(self):
        thing = thing_with("a", ("x", 1))
        Refill()(thing, Book())
        self.assertEqual(thing.fields, (("x", 1),))


if __name__ == "__main__":
    unittest.main()
