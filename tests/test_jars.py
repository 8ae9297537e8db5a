"""Jars: streams by names, with changes that can be taken back."""

import inspect
import random
import unittest

from brinejar.dumping import dump
from brinejar.errors import (Full, InvalidMade, InvalidName, InvalidReduction, InvalidValue, InvalidVersion, NoName,
                             NotCanonical, NothingToUndo, Refused, SelfArgument, TooDeep, TooLong, UnknownBrand)
from brinejar.graphs import same_graph
from brinejar.jars import Jar
from brinejar.makers import Fields, Parts, Refill, Whole
from brinejar.nodes import Book, Pack, Row, Thing
from brinejar.registry import Registry
from tests.helpers import NEVER_VALUES, caught
from tests.refusing import never_called
from tests.test_dump_errors import NEVER_VERSIONS, answering, nested
from tests.test_graphs import samples
from tests.test_makers import thing_with

VERSIONS = (1, 2, 3, 4)
NEVER_NAMES = NEVER_VALUES + (None, True, 0, "", "A", "aB", "a1", "a b", "a.b", "a_b", " a", "a ", "a\n", "\n", "-",
                              "a" * 21, b"a", ("a",), ["a"], "a,b", "{", "`", "@")
LETTERS = "abcdefghijklmnopqrstuvwxyz"


def state_of(jar):
    """Return all that a jar tells of itself."""
    return (jar.names, tuple(jar.stream_of(name) for name in jar.names), jar.version, jar.total, jar.changes)


def full_jar(*, many=50, version=4):
    """Return a jar with so many streams."""
    jar = Jar(version=version)
    for number in range(many):
        jar.put(LETTERS[number // 26] + LETTERS[number % 26], number)
    return jar


class JarTests(unittest.TestCase):
    def assert_unchanged(self, jar, error_class, call, *given):
        """Return the error, after checking that the call changes nothing."""
        before = state_of(jar)
        error = caught(error_class, call, *given)
        self.assertEqual(state_of(jar), before)
        return error


class PutTests(JarTests):
    def test_what_dump_returns_is_kept(self):
        registry = Registry("t", "u", "a", "b")
        for version in VERSIONS:
            jar = Jar(registry, version=version)
            for count, value in enumerate(samples(), start=1):
                self.assertIsNone(jar.put("x", value))
                self.assertEqual(jar.stream_of("x"), dump(value, registry, version=version))
                self.assertTrue(same_graph(jar.take("x"), value))
                self.assertEqual((jar.changes, jar.names, jar.total), (count, ("x",), len(jar.stream_of("x"))))

    def test_names(self):
        jar = Jar()
        for name in ("z", "a", "a" * 20, LETTERS[:20], LETTERS[6:], "b"):
            jar.put(name, 1)
        self.assertEqual(jar.names, ("a", "a" * 20, LETTERS[:20], "b", LETTERS[6:], "z"))
        for letter in LETTERS:
            jar.put(letter, 1)
        self.assertEqual(jar.names[-1], "z")
        self.assertEqual(Jar().names, ())

    def test_no_name(self):
        jar = Jar()
        jar.put("a", 1)
        for wrong in NEVER_NAMES:
            self.assertIs(self.assert_unchanged(jar, InvalidName, jar.put, wrong, 1).given, wrong)
            self.assertIs(self.assert_unchanged(jar, InvalidName, jar.put, wrong, []).given, wrong)

    def test_an_older_stream_of_the_name(self):
        jar = Jar(version=1)
        jar.put("a", 1)
        jar.put("a", None)
        self.assertEqual((jar.stream_of("a"), jar.names, jar.changes, jar.total), ((163, 160), ("a",), 2, 2))

    def test_a_later_change_of_the_value_does_not_count(self):
        jar, row = Jar(), Row()
        jar.put("a", row)
        row.put_last(1)
        self.assertEqual(jar.take("a").parts, ())
        jar.take("a").put_last(2)
        self.assertEqual(jar.take("a").parts, ())

    def test_the_errors_of_dump(self):
        registry = Registry()
        registry.enter("self", None, lambda thing: ((thing,), None), takes=1)
        registry.enter("none", None, answering(None))
        jar = Jar(registry)
        jar.put("a", 1)
        for wrong in NEVER_VALUES:
            self.assertIs(self.assert_unchanged(jar, InvalidValue, jar.put, "a", wrong).value, wrong)
        self.assertEqual(self.assert_unchanged(jar, TooDeep, jar.put, "b", nested(50, 1)).limit, 50)
        self.assertEqual(self.assert_unchanged(jar, UnknownBrand, jar.put, "a", Thing("t")).given, "t")
        self.assertEqual(self.assert_unchanged(jar, SelfArgument, jar.put, "a", Thing("self")).given, "self")
        self.assertEqual(self.assert_unchanged(jar, InvalidReduction, jar.put, "a", Thing("none")).given, "none")
        long = Row(*["a" * 1990 + str(number) for number in range(10, 36)])
        self.assertEqual(self.assert_unchanged(jar, TooLong, jar.put, "a", long).limit, 50000)

    def test_full(self):
        jar = full_jar()
        self.assertEqual((len(jar.names), jar.changes), (50, 50))
        self.assertEqual(self.assert_unchanged(jar, Full, jar.put, "zz", 1).limit, 50)
        jar.put("aa", "other")
        self.assertEqual((jar.take("aa"), len(jar.names), jar.changes), ("other", 50, 51))
        jar.drop("ab")
        jar.put("zz", 1)
        self.assert_unchanged(jar, Full, jar.put, "ab", 1)

    def test_the_order_of_the_errors(self):
        jar = full_jar()
        self.assert_unchanged(jar, InvalidName, jar.put, "A", [])
        self.assert_unchanged(jar, InvalidValue, jar.put, "zz", [])
        self.assert_unchanged(jar, UnknownBrand, jar.put, "zz", Thing("t"))
        self.assert_unchanged(jar, TooLong, jar.put, "zz", Row(*["a" * 1990 + str(n) for n in range(10, 36)]))
        self.assert_unchanged(jar, Full, jar.put, "zz", 1)

    def test_total(self):
        jar = Jar(version=1)
        self.assertEqual(jar.total, 0)
        for count, value in enumerate((None, Row(), 7, "salt"), start=1):
            jar.put("abcd"[count - 1], value)
        self.assertEqual(jar.total, 2 + 2 + 4 + 7)
        jar.drop("c")
        self.assertEqual(jar.total, 11)


class NamedTests(JarTests):
    def test_no_such_name(self):
        jar = Jar()
        jar.put("a", 1)
        jar.put("dropped", 1)
        jar.drop("dropped")
        for wrong in NEVER_NAMES + ("b", "aa", "dropped"):
            for call in (jar.take, jar.drop, jar.stream_of):
                self.assertIs(self.assert_unchanged(jar, NoName, call, wrong).given, wrong)

    def test_drop(self):
        jar = Jar()
        for name in ("b", "a", "c"):
            jar.put(name, name)
        self.assertIsNone(jar.drop("a"))
        self.assertEqual((jar.names, jar.changes), (("b", "c"), 4))
        self.assertEqual((jar.take("b"), jar.take("c")), ("b", "c"))

    def test_take_gives_a_new_value_each_time(self):
        jar = Jar()
        jar.put("a", Row())
        self.assertNotEqual(jar.take("a"), jar.take("a"))
        self.assertEqual(jar.changes, 1)

    def test_take_raises_what_load_raises(self):
        registry = Registry("t")
        registry.enter("u", lambda arguments: None, answering(((), None)))
        jar = Jar(registry)
        jar.put("a", Thing("t"))
        jar.put("b", Thing("u"))
        self.assertEqual(self.assert_unchanged(jar, InvalidMade, jar.take, "b").given, "u")
        registry.forget("t")
        error = self.assert_unchanged(jar, Refused, jar.take, "a")
        self.assertEqual((error.offset, error.reason), (10, "class"))

    def test_later_changes_of_the_registry_count(self):
        registry = Registry()
        jar = Jar(registry)
        self.assert_unchanged(jar, UnknownBrand, jar.put, "a", Thing("t"))
        registry.allow("t")
        jar.put("a", Thing("t"))
        self.assertEqual(jar.take("a").brand, "t")
        self.assertEqual(len(registry), 1)

    def test_hooks(self):
        registry = Registry()
        registry.enter("t", Fields("t", "x"), Parts("x"), takes=1)
        registry.enter("u", Fields("u"), Whole(), build=Refill())
        jar = Jar(registry)
        value = Pack(thing_with("t", ("x", 1)), thing_with("u", ("n", "salt")))
        jar.put("a", value)
        self.assertTrue(same_graph(jar.take("a"), value))
        for version in VERSIONS:
            jar.convert(version)
            self.assertEqual(jar.stream_of("a"), dump(value, registry, version=version))


class ConvertTests(JarTests):
    def test_all_streams_are_converted(self):
        values = dict(zip("abcdefgh", samples()))
        registry = Registry("t", "u", "a", "b")
        for first in VERSIONS:
            jar = Jar(registry, version=first)
            for name, value in values.items():
                jar.put(name, value)
            for version in VERSIONS:
                self.assertIsNone(jar.convert(version))
                self.assertEqual(jar.version, version)
                for name, value in values.items():
                    self.assertEqual(jar.stream_of(name), dump(value, registry, version=version))

    def test_later_puts_have_the_version(self):
        jar = Jar()
        jar.convert(1)
        jar.put("a", None)
        self.assertEqual((jar.stream_of("a"), jar.version, jar.changes), ((163, 160), 1, 2))

    def test_a_convert_to_the_same_version_is_a_change(self):
        jar = Jar(version=3)
        jar.put("a", 1)
        jar.convert(3)
        self.assertEqual((jar.version, jar.changes, jar.take("a")), (3, 2, 1))

    def test_no_hook_is_called(self):
        registry = Registry()
        registry.enter("t", never_called, answering(((1,), None)), takes=1)
        jar = Jar(registry)
        jar.put("a", Thing("t"))
        jar.convert(1)
        self.assertEqual(jar.stream_of("a")[0], 197)

    def test_no_version(self):
        jar = Jar()
        jar.put("a", 1)
        for wrong in NEVER_VERSIONS:
            self.assertIs(self.assert_unchanged(jar, InvalidVersion, jar.convert, wrong).value, wrong)
            self.assertIs(self.assert_unchanged(Jar(), InvalidVersion, Jar().convert, wrong).value, wrong)
            self.assertIs(caught(InvalidVersion, Jar, version=wrong).value, wrong)
            self.assertIs(caught(InvalidVersion, Jar, Registry(), version=wrong).value, wrong)

    def test_the_first_error_by_names(self):
        registry = Registry("t", "uu")
        jar = Jar(registry)
        jar.put("c", Row(Thing("t")))
        jar.put("a", 1)
        jar.put("b", Pack(1, 2, Thing("uu")))
        jar.put("d", Row(*[1] * 20000))
        registry.forget("t")
        registry.forget("uu")
        error = self.assert_unchanged(jar, Refused, jar.convert, 1)
        self.assertEqual((error.offset, error.reason), (15, "class"))
        registry.allow("uu")
        error = self.assert_unchanged(jar, Refused, jar.convert, 1)
        self.assertEqual((error.offset, error.reason), (11, "class"))
        registry.allow("t")
        self.assert_unchanged(jar, TooLong, jar.convert, 1)
        jar.drop("d")
        jar.convert(1)
        self.assertEqual(jar.version, 1)

    def test_too_long(self):
        jar = Jar(version=2)
        jar.put("b", Row(*[255] * 24000))
        jar.put("a", 1)
        self.assertEqual(self.assert_unchanged(jar, TooLong, jar.convert, 1).limit, 50000)
        self.assertEqual(self.assert_unchanged(jar, TooLong, jar.convert, 4).limit, 50000)
        jar.convert(3)
        jar.drop("b")
        jar.convert(1)

    def test_not_canonical_any_more(self):
        registry = Registry()
        registry.enter("t", Fields("t"), lambda thing: ((), Book()), build=print)
        jar = Jar(registry, version=1)
        jar.put("a", Thing("t"))
        registry.forget("t")
        registry.allow("t")
        # An allowed thing without fields is not built.
        self.assertEqual(self.assert_unchanged(jar, NotCanonical, jar.convert, 2).offset, 6)

    def test_not_right_any_more(self):
        registry = Registry("t")
        jar = Jar(registry)
        jar.put("a", thing_with("t", ("n", 1)))
        registry.forget("t")
        registry.enter("t", never_called, never_called)
        self.assertEqual(self.assert_unchanged(jar, Refused, jar.convert, 1).reason, "kind")


class UndoTests(JarTests):
    def test_nothing_to_undo(self):
        jar = Jar()
        self.assertEqual(self.assert_unchanged(jar, NothingToUndo, jar.undo).count, 0)
        jar.put("a", 1)
        self.assertIsNone(jar.undo())
        self.assertEqual(self.assert_unchanged(jar, NothingToUndo, jar.undo).count, 0)
        self.assertEqual(state_of(jar), ((), (), 4, 0, 0))

    def test_back_to_the_beginning(self):
        chance = random.Random(2)
        for version in VERSIONS:
            jar, states = Jar(version=version), []
            for _ in range(60):
                states.append(state_of(jar))
                kind = chance.randrange(4)
                if kind == 0 and jar.names:
                    jar.drop(chance.choice(jar.names))
                elif kind == 1:
                    jar.convert(chance.choice(VERSIONS))
                else:
                    jar.put(chance.choice("abcde"), chance.choice((1, "salt", Row(Row(), "salt", "salt"))))
            self.assertEqual(jar.changes, 60)
            for state in states[::-1]:
                jar.undo()
                self.assertEqual(state_of(jar), state)
            self.assert_unchanged(jar, NothingToUndo, jar.undo)

    def test_undo_of_a_convert_brings_the_old_version_back(self):
        jar = Jar(version=2)
        jar.put("a", Row())
        jar.convert(1)
        jar.convert(4)
        jar.undo()
        self.assertEqual((jar.version, jar.stream_of("a")), (1, (182, 160)))
        jar.undo()
        self.assertEqual((jar.version, jar.stream_of("a")), (2, (161, 2, 182, 160)))
        jar.put("b", None)
        self.assertEqual(jar.stream_of("b"), (161, 2, 163, 160))

    def test_undo_of_a_put_in_the_place_of_an_older_stream(self):
        jar = Jar()
        jar.put("a", 1)
        jar.put("a", 2)
        jar.undo()
        self.assertEqual(jar.take("a"), 1)
        jar.undo()
        self.assertEqual(jar.names, ())

    def test_undo_of_a_drop(self):
        jar = Jar()
        jar.put("a", 1)
        jar.drop("a")
        jar.undo()
        self.assertEqual((jar.take("a"), jar.changes), (1, 1))

    def test_a_put_of_an_equal_stream_is_a_change(self):
        jar = Jar()
        for _ in range(3):
            jar.put("a", 1)
        self.assertEqual(jar.changes, 3)
        jar.undo()
        self.assertEqual((jar.changes, jar.take("a")), (2, 1))

    def test_what_was_taken_back_is_gone(self):
        jar = Jar()
        jar.put("a", 1)
        jar.put("b", 1)
        jar.undo()
        jar.put("c", 1)
        jar.undo()
        self.assertEqual((jar.names, jar.changes), (("a",), 1))

    def test_undo_makes_room(self):
        jar = full_jar()
        jar.undo()
        jar.put("zz", 1)
        self.assertEqual(len(jar.names), 50)


class TwinTests(JarTests):
    def test_a_twin_goes_on_alone(self):
        jar = Jar(version=2)
        jar.put("a", 1)
        jar.put("b", Row())
        twin = jar.twin()
        self.assertIs(type(twin), Jar)
        self.assertEqual(state_of(twin), state_of(jar))
        before = state_of(jar)
        twin.drop("a")
        twin.put("c", 1)
        twin.convert(3)
        self.assertEqual(state_of(jar), before)
        self.assertEqual((twin.names, twin.version, twin.changes), (("b", "c"), 3, 5))
        jar.undo()
        jar.undo()
        self.assertEqual(twin.changes, 5)
        for _ in range(5):
            twin.undo()
        self.assertEqual(state_of(twin), ((), (), 2, 0, 0))
        self.assert_unchanged(twin, NothingToUndo, twin.undo)

    def test_the_same_registry_object(self):
        registry = Registry()
        jar = Jar(registry)
        twin = jar.twin().twin()
        registry.allow("t")
        for one in (jar, twin):
            one.put("a", Thing("t"))
            self.assertEqual(one.take("a").brand, "t")
        registry.forget("t")
        for one in (jar, twin):
            self.assertEqual(caught(Refused, one.take, "a").reason, "class")

    def test_a_twin_of_an_empty_jar(self):
        twin = Jar(version=1).twin()
        self.assertEqual(state_of(twin), ((), (), 1, 0, 0))


class InterfaceTests(unittest.TestCase):
    def test_as_it_is_written(self):
        self.assertEqual(Jar.__module__, "brinejar.jars")
        self.assertEqual(str(inspect.signature(Jar)), "(registry=None, *, version=4)")
        parameters = {"put": ["name", "value"], "take": ["name"], "drop": ["name"], "convert": ["version"],
                      "undo": [], "stream_of": ["name"], "twin": []}
        for name, expected in parameters.items():
            self.assertEqual(list(inspect.signature(vars(Jar)[name]).parameters), ["self", *expected])
        for name in ("names", "version", "total", "changes"):
            self.assertIsInstance(vars(Jar)[name], property)

    def test_kinds(self):
        jar = Jar()
        jar.put("a", 1)
        self.assertEqual([type(part) for part in state_of(jar)], [tuple, tuple, int, int, int])
        self.assertIs(type(jar.stream_of("a")), tuple)
        self.assertEqual(jar.version, 4)

    def test_by_position_and_by_name(self):
        jar = Jar(registry=Registry("t"), version=1)
        jar.put(name="a", value=Thing("t"))
        self.assertEqual(jar.take(name="a").brand, "t")
        jar.convert(version=2)
        self.assertEqual(len(jar.stream_of(name="a")), 2 + 3 + 1 + 1 + 1)
        jar.drop(name="a")
        with self.assertRaises(TypeError):
            Jar(None, 4)


if __name__ == "__main__":
    unittest.main()
