"""Batches: edits of a jar that are made all or not at all."""

import inspect
import unittest

from brinejar import batches
from brinejar.batches import Batch, batched, batched_all
from brinejar.errors import (InvalidEdit, InvalidName, InvalidValue, InvalidVersion, NoName, NothingToUndo, TooDeep,
                             UnknownBrand)
from brinejar.jars import Jar
from brinejar.nodes import Row, Thing
from tests.helpers import NEVER_VALUES, caught
from tests.test_dump_errors import nested
from tests.test_jars import state_of


def jar_with(*names):
    """Return a jar of version 3 with a number under each name."""
    jar = Jar(version=3)
    for number, name in enumerate(names):
        jar.put(name, number)
    return jar


class BatchTests(unittest.TestCase):
    def test_the_block_gets_the_jar(self):
        jar = Jar()
        with Batch(jar) as given:
            self.assertIs(given, jar)
            given.put("a", 1)
        self.assertEqual((jar.names, jar.changes), (("a",), 1))

    def test_all_changes_of_the_block_stay(self):
        jar = jar_with("a", "b")
        with Batch(jar):
            jar.drop("a")
            jar.convert(1)
            jar.put("c", 7)
            jar.undo()
        self.assertEqual((jar.names, jar.version, jar.changes), (("b",), 1, 4))
        jar.undo()
        self.assertEqual((jar.names, jar.version), (("b",), 3))

    def test_after_an_error_the_jar_is_as_at_the_beginning(self):
        for error in (ZeroDivisionError, KeyboardInterrupt, NoName):
            jar = jar_with("a", "b")
            before = state_of(jar)
            with self.assertRaises(error):
                with Batch(jar):
                    jar.put("c", 1)
                    jar.put("a", 2)
                    jar.drop("b")
                    jar.convert(1)
                    raise error("x")
            self.assertEqual(state_of(jar), before)
            jar.undo()
            self.assertEqual((jar.names, jar.changes), (("a",), 1))

    def test_what_undo_within_the_block_took_back(self):
        jar = jar_with("a", "b")
        jar.convert(2)
        before = state_of(jar)
        with self.assertRaises(ZeroDivisionError):
            with Batch(jar):
                jar.undo()
                jar.undo()
                jar.undo()
                jar.put("c", 1)
                raise ZeroDivisionError
        self.assertEqual(state_of(jar), before)
        for names in (("a", "b"), ("a",), ()):
            jar.undo()
            self.assertEqual(jar.names, names)
        caught(NothingToUndo, jar.undo)

    def test_an_error_that_the_block_catches_counts_not(self):
        jar = Jar()
        with Batch(jar):
            jar.put("a", 1)
            caught(NoName, jar.drop, "b")
        self.assertEqual(jar.names, ("a",))

    def test_an_error_of_the_jar(self):
        jar = jar_with("a")
        before = state_of(jar)
        with self.assertRaises(NoName):
            with Batch(jar):
                jar.drop("a")
                jar.drop("a")
        self.assertEqual(state_of(jar), before)

    def test_batches_inside_one_another(self):
        jar = Jar()
        with Batch(jar):
            jar.put("a", 1)
            with self.assertRaises(ZeroDivisionError):
                with Batch(jar):
                    jar.put("b", 1)
                    jar.undo()
                    jar.undo()
                    raise ZeroDivisionError
            self.assertEqual((jar.names, jar.changes), (("a",), 1))
            with Batch(jar):
                jar.put("c", 1)
        self.assertEqual((jar.names, jar.changes), (("a", "c"), 2))
        before = state_of(jar)
        with self.assertRaises(ZeroDivisionError):
            with Batch(jar):
                with Batch(jar):
                    jar.put("d", 1)
                jar.drop("a")
                raise ZeroDivisionError
        self.assertEqual(state_of(jar), before)

    def test_two_jars(self):
        one, two = Jar(), Jar()
        with self.assertRaises(ZeroDivisionError):
            with Batch(one) as first:
                with Batch(two) as second:
                    first.put("a", 1)
                    second.put("b", 1)
                raise ZeroDivisionError
        self.assertEqual((one.names, two.names), ((), ("b",)))

    def test_a_batch_can_be_used_again(self):
        jar = Jar()
        batch = Batch(jar)
        with batch:
            jar.put("a", 1)
        with self.assertRaises(ZeroDivisionError):
            with batch:
                jar.put("b", 1)
                raise ZeroDivisionError
        self.assertEqual(jar.names, ("a",))

    def test_an_empty_block(self):
        jar = jar_with("a")
        before = state_of(jar)
        with Batch(jar):
            pass
        self.assertEqual(state_of(jar), before)

    def test_a_twin_of_before_goes_on_alone(self):
        jar = jar_with("a")
        with self.assertRaises(ZeroDivisionError):
            with Batch(jar):
                jar.put("b", 1)
                twin = jar.twin()
                raise ZeroDivisionError
        self.assertEqual((jar.names, twin.names), (("a",), ("a", "b")))


class EditTests(unittest.TestCase):
    def both(self, jar, *edits):
        """Make the edits at the jar, and check that batched_all does the same at its twin."""
        twin = jar.twin()
        self.assertIsNone(batched(jar, *edits))
        self.assertIsNone(batched_all(twin, edits))
        self.assertEqual(state_of(jar), state_of(twin))

    def fails(self, error_class, jar, *edits):
        """Return the error that the edits raise, after checking that the jar is as before."""
        before = state_of(jar)
        caught(error_class, batched_all, jar, edits)
        self.assertEqual(state_of(jar), before)
        error = caught(error_class, batched, jar, *edits)
        self.assertEqual(state_of(jar), before)
        return error

    def test_edits_one_after_another(self):
        jar = Jar()
        self.both(jar, ("put", "a", 1), ("put", "b", Row()), ("convert", 1), ("drop", "a"), ("put", "c", "x"),
                  ("undo",))
        self.assertEqual((jar.names, jar.version, jar.changes), (("b",), 1, 4))
        self.assertEqual(jar.stream_of("b"), (182, 160))
        self.both(jar, ("undo",), ("undo",))
        self.assertEqual((jar.names, jar.version), (("a", "b"), 4))

    def test_each_edit(self):
        jar = jar_with("a")
        self.both(jar, ("put", "a", None))
        self.assertIsNone(jar.take("a"))
        self.both(jar, ("convert", 2))
        self.assertEqual(jar.version, 2)
        self.both(jar, ("undo",))
        self.assertEqual(jar.version, 3)
        self.both(jar, ("drop", "a"))
        self.assertEqual(jar.names, ())

    def test_an_empty_batch(self):
        jar = jar_with("a")
        before = state_of(jar)
        self.both(jar)
        self.assertEqual(state_of(jar), before)

    def test_what_is_no_tuple(self):
        for wrong in (None, True, 0, "undo", [], [("undo",)], {}, Row(), iter(())):
            jar = jar_with("a")
            self.assertIsNone(caught(InvalidEdit, batched_all, jar, wrong).position)
            self.assertEqual(jar.changes, 1)

    def test_what_is_no_edit(self):
        wrong = [*NEVER_VALUES[:3], *NEVER_VALUES[3:], None, True, 0, "undo", "put", ["undo"], ["put", "a", 1],
                 ("undo", 1),
                 ("put",), ("put", "a"), ("put", "a", 1, 2), ("drop",), ("drop", "a", 1), ("convert",),
                 ("convert", 1, 2), ("take", "a"), ("Put", "a", 1), ("", "a"), (None,), (["undo"],), (("undo",),),
                 ("undo ",), ("twin",), (1, 2, 3), ("put", ("a", 1)), Row("undo")]
        for edit in wrong:
            for ahead in range(3):
                edits = (("put", "x", 1),) * ahead + (edit, ("undo",), None)
                jar = jar_with("a")
                self.assertEqual(self.fails(InvalidEdit, jar, *edits).position, ahead)

    def test_before_any_edit_is_made(self):
        jar = jar_with("a")
        self.assertEqual(self.fails(InvalidEdit, jar, ("drop", "b"), ("put", "A", []), ("drop",)).position, 2)

    def test_the_first_error_of_an_edit(self):
        cases = [(InvalidName, ("put", "A", 1)), (InvalidName, ("put", None, [])), (InvalidValue, ("put", "b", [])),
                 (TooDeep, ("put", "b", nested(50, 1))), (UnknownBrand, ("put", "b", Thing("t"))),
                 (NoName, ("drop", "x")), (NoName, ("drop", None)), (InvalidVersion, ("convert", 5)),
                 (InvalidVersion, ("convert", "1"))]
        for error_class, edit in cases:
            for ahead in ((), (("put", "c", 1),), (("undo",),), (("convert", 1), ("drop", "a"))):
                self.fails(error_class, jar_with("a", "b"), *ahead, edit, ("drop", "nothing"))
        self.assertEqual(self.fails(NothingToUndo, jar_with("a"), ("undo",), ("undo",), ("drop", "x")).count, 0)

    def test_within_a_batch(self):
        jar = Jar()
        with self.assertRaises(ZeroDivisionError):
            with Batch(jar):
                batched(jar, ("put", "a", 1))
                caught(NoName, batched, jar, ("put", "b", 1), ("drop", "c"))
                self.assertEqual(jar.names, ("a",))
                raise ZeroDivisionError
        self.assertEqual(state_of(jar), state_of(Jar()))

    def test_as_it_is_written(self):
        self.assertEqual(str(inspect.signature(batches.Batch)), "(jar)")
        self.assertEqual(str(inspect.signature(batches.batched)), "(jar, *edits)")
        self.assertEqual(str(inspect.signature(batches.batched_all)), "(jar, edits)")
        for made in (Batch, batched, batched_all):
            self.assertEqual(made.__module__, "brinejar.batches")
        jar = Jar()
        batched_all(jar=jar, edits=(("put", "a", 1),))
        with Batch(jar=jar):
            pass
        self.assertEqual(jar.names, ("a",))


if __name__ == "__main__":
    unittest.main()
