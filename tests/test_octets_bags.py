"""Promise 3: Octets and Bag."""

import unittest

from brinejar.errors import InvalidKey, InvalidNumbers, KeyTaken
from brinejar.nodes import Bag, Octets, Row
from tests.helpers import EDGE_INTEGERS, EDGE_TEXTS, NEVER_KEYS, Stranger, caught


class OctetsTests(unittest.TestCase):
    def test_numbers_are_kept(self):
        self.assertEqual(Octets().numbers, ())
        self.assertEqual(Octets(()).numbers, ())
        self.assertEqual(Octets((0, 255, 7, 7)).numbers, (0, 255, 7, 7))
        self.assertEqual(Octets(numbers=(1, 2)).numbers, (1, 2))
        self.assertIsInstance(Octets((1, 2)).numbers, tuple)

    def test_two_thousand_numbers_and_no_more(self):
        most = tuple(range(250)) * 8
        self.assertEqual(Octets(most).numbers, most)
        for many in (2001, 5000):
            given = (0,) * many
            self.assertIs(caught(InvalidNumbers, Octets, given).value, given)

    def test_wrong_numbers(self):
        wrong = (-1, 256, 10 ** 300, True, False, None, "1", "", (1,), [1], {}, 1.0, Row(), Stranger())
        for number in wrong:
            for given in ((number,), (1, number), (number, 1), (0,) * 1999 + (number,)):
                self.assertIs(caught(InvalidNumbers, Octets, given).value, given)

    def test_what_is_no_tuple(self):
        given = ([], [1], {}, {1: 2}, None, 1, True, "ab", b"ab", range(3), Octets((1,)), Stranger())
        for numbers in given:
            self.assertIs(caught(InvalidNumbers, Octets, numbers).value, numbers)
            self.assertIs(caught(InvalidNumbers, Octets, numbers=numbers).value, numbers)

    def test_numbers_cannot_be_assigned(self):
        with self.assertRaises(AttributeError):
            Octets((1,)).numbers = (2,)


class BagTests(unittest.TestCase):
    def test_the_example(self):
        self.assertEqual(Bag(5, "b", "a", 3).members, (3, 5, "a", "b"))

    def test_members_ascend_integers_before_texts(self):
        self.assertEqual(Bag().members, ())
        self.assertEqual(Bag("10", 9, "9", 10, -1).members, (-1, 9, 10, "10", "9"))
        self.assertEqual(Bag("b", "", "B", "ab", "a").members, ("", "B", "a", "ab", "b"))
        self.assertEqual(Bag(1, "1").members, (1, "1"))
        self.assertIsInstance(Bag(2, 1).members, tuple)

    def test_edges(self):
        keys = EDGE_INTEGERS + EDGE_TEXTS
        expected = tuple(sorted(EDGE_INTEGERS)) + tuple(sorted(EDGE_TEXTS))
        self.assertEqual(Bag(*keys).members, expected)
        self.assertEqual(Bag.of(keys[::-1]).members, expected)

    def test_wrong_keys(self):
        for key in NEVER_KEYS + (Row(), Octets((1,))):
            for given in ((key,), (1, key), (key, 1), ("a", key, key)):
                self.assertIs(caught(InvalidKey, Bag, *given).key, key)
                self.assertIs(caught(InvalidKey, Bag.of, given).key, key)

    def test_taken_keys(self):
        for given in ((1, 1), ("a", 1, "a"), (1, 2, 2, 1), ("", "")):
            self.assertEqual(caught(KeyTaken, Bag, *given).key, given[-1] if len(given) < 4 else 2)
            self.assertEqual(caught(KeyTaken, Bag.of, given).key, given[-1] if len(given) < 4 else 2)

    def test_the_first_wrong_argument_counts(self):
        self.assertEqual(caught(KeyTaken, Bag, 1, 1, None).key, 1)
        self.assertIsNone(caught(InvalidKey, Bag, 1, None, 1).key)
        self.assertIs(caught(InvalidKey, Bag, 1, True).key, True)
        self.assertEqual(caught(InvalidKey, Bag, (), [], 10 ** 300).key, ())
        self.assertEqual(caught(KeyTaken, Bag.of, ("a", "a", True, 1, 1)).key, "a")

    def test_of_takes_one_tuple(self):
        self.assertEqual(Bag.of((2, 1)).members, (1, 2))
        self.assertEqual(Bag.of(members=()).members, ())
        for given in ([], [1], {}, {1: 2}, None, 1, True, "ab", range(3), Bag(1), Stranger()):
            self.assertIs(caught(InvalidKey, Bag.of, given).key, given)
            self.assertIs(caught(InvalidKey, Bag.of, members=given).key, given)

    def test_of_makes_a_new_bag(self):
        bag = Bag(1)
        self.assertIsInstance(Bag.of(bag.members), Bag)
        self.assertNotEqual(Bag.of(bag.members), bag)

    def test_members_cannot_be_assigned(self):
        with self.assertRaises(AttributeError):
            Bag(1).members = (2,)


if __name__ == "__main__":
    unittest.main()
