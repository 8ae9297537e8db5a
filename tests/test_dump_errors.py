"""The errors of dump: each at its place in the writing, in the documented order."""

import inspect
import unittest

from brinejar.dumping import dump
from brinejar.errors import (InvalidLabel, InvalidReduction, InvalidValue, InvalidVersion, SelfArgument, TooDeep,
                             TooLong, UnknownBrand)
from brinejar.makers import Parts, Whole
from brinejar.nodes import Bag, Book, Octets, Pack, Row, Thing
from brinejar.registry import Registry
from tests.helpers import NEVER_VALUES, caught
from tests.listing import plain
from tests.test_dump_things import entered
from tests.test_makers import thing_with

NEVER_VERSIONS = NEVER_VALUES + (None, True, False, 0, 5, -1, 10 ** 9, "4", "", 4.0, (4,))


def nested(depth, value, wrap=Row):
    """Return the value inside so many nodes."""
    for _ in range(depth):
        value = wrap(value)
    return value


def answering(answer):
    """Return a hook that gives always this answer."""
    return lambda *given: answer


class ParameterTests(unittest.TestCase):
    def test_no_version(self):
        for wrong in NEVER_VERSIONS:
            self.assertIs(caught(InvalidVersion, dump, Row(), version=wrong).value, wrong)
            self.assertIs(caught(InvalidVersion, dump, [], version=wrong).value, wrong)

    def test_no_value(self):
        for wrong in NEVER_VALUES:
            for version in range(1, 5):
                self.assertIs(caught(InvalidValue, dump, wrong, version=version).value, wrong)

    def test_parameters_by_position_and_by_name(self):
        registry = Registry("t")
        stream = dump(Thing("t"), registry)
        self.assertEqual(dump(value=Thing("t"), registry=registry, version=4, outside=None), stream)
        self.assertEqual(dump(Thing("t"), registry=registry), stream)
        with self.assertRaises(TypeError):
            dump(Row(), None, 4)

    def test_the_interface_as_it_is_written(self):
        parameters = inspect.signature(dump).parameters
        self.assertEqual((dump.__module__, list(parameters)), ("brinejar.dumping", ["value", "registry", "version",
                                                                                    "outside"]))
        self.assertEqual([parameters[name].default for name in ("registry", "version", "outside")], [None, 4, None])


class InvalidValueTests(unittest.TestCase):
    def test_arguments_and_states(self):
        for wrong in NEVER_VALUES:
            registry = entered(answering(((1, wrong), None)), takes=2)
            self.assertIs(caught(InvalidValue, dump, Thing("t"), registry).value, wrong)
            registry = entered(answering(((), wrong)), build=print)
            self.assertIs(caught(InvalidValue, dump, Thing("t"), registry).value, wrong)

    def test_at_their_place(self):
        def registry_with(arguments, state):
            return entered(answering((arguments, state)), takes=2, build=print)

        unknown = Thing("u")
        self.assertEqual(caught(UnknownBrand, dump, Thing("t"), registry_with((unknown, []), [])).given, "u")
        self.assertEqual(caught(InvalidValue, dump, Thing("t"), registry_with(([], unknown), {})).value, [])
        self.assertEqual(caught(InvalidValue, dump, Thing("t"), registry_with((1, []), {})).value, [])
        self.assertEqual(caught(InvalidValue, dump, Thing("t"), registry_with((1, 2), {})).value, {})
        self.assertEqual(caught(UnknownBrand, dump, Thing("t"), registry_with((1, 2), unknown)).given, "u")

    def test_the_place_of_a_state_is_behind_the_arguments_of_inner_things(self):
        inner = thing_with("u", ("x", Thing("v")))
        registry = entered(answering(((inner,), [])), takes=1, build=print)
        registry.allow("u")
        self.assertEqual(caught(UnknownBrand, dump, Thing("t"), registry).given, "v")
        registry.allow("v")
        self.assertEqual(caught(InvalidValue, dump, Thing("t"), registry).value, [])


class LabelTests(unittest.TestCase):
    def test_what_is_no_label(self):
        for wrong in NEVER_VALUES + (True, False, 0, 1, Row(), Thing("a"), Octets()):
            for version in (1, 4):
                self.assertIs(caught(InvalidLabel, dump, Row(), version=version, outside=answering(wrong)).value, wrong)

    def test_before_the_errors_of_a_thing(self):
        self.assertEqual(caught(InvalidLabel, dump, Thing("t"), outside=answering(1)).value, 1)
        self.assertEqual(caught(UnknownBrand, dump, Thing("t"), outside=answering(None)).given, "t")

    def test_at_its_place(self):
        def outside(node):
            return 1 if node.shape == "octets" else None

        self.assertEqual(caught(UnknownBrand, dump, Pack(Thing("t"), Octets()), outside=outside).given, "t")
        self.assertEqual(caught(InvalidLabel, dump, Pack(Octets(), Thing("t")), outside=outside).value, 1)


class DepthTests(unittest.TestCase):
    def assert_deepest(self, value_at, registry=None, outside=None, versions=(1, 2, 3, 4)):
        """Check that value_at(0) can be written and value_at(1) is too deep."""
        for version in versions:
            dump(value_at(0), registry, version=version, outside=outside)
            error = caught(TooDeep, dump, value_at(1), registry, version=version, outside=outside)
            self.assertEqual(error.limit, 50)

    def test_rows_packs_books_and_bags(self):
        self.assert_deepest(lambda more: nested(49 + more, Row()))
        self.assert_deepest(lambda more: nested(49 + more, 1))
        self.assert_deepest(lambda more: nested(49 + more, Pack(), Pack))
        self.assert_deepest(lambda more: nested(48 + more, Pack(1, 2, 3, 4), Pack))
        self.assert_deepest(lambda more: nested(49 + more, 1, lambda value: Book.of(((1, value),))))
        self.assert_deepest(lambda more: nested(48 + more, Book.of(((1, 2), (3, 4)))))
        self.assert_deepest(lambda more: nested(49 + more, Book()))
        self.assert_deepest(lambda more: nested(49 + more, Bag()))
        self.assert_deepest(lambda more: nested(48 + more, Bag(1)))
        self.assert_deepest(lambda more: nested(48 + more, Bag("salt", 1)))
        self.assert_deepest(lambda more: nested(49 + more, Octets((1, 2))))

    def test_what_is_got(self):
        def rows(depth, in_it):
            inner = Row()
            outer = nested(depth - 1, inner)
            inner.put_last(outer if in_it == "row" else in_it)
            return Row("salt", outer) if in_it == "salt" else outer

        self.assert_deepest(lambda more: rows(49 + more, "row"))
        self.assert_deepest(lambda more: rows(48 + more, "salt"))

    def test_packs_that_contain_themselves(self):
        def ring(count):
            row = Row()
            pack = nested(count, row, Pack)
            row.put_last(pack)
            return pack

        # The Packs, the Row, the Packs again, and the Row that is got.
        self.assert_deepest(lambda more: ring(24 + more))

    def test_things_of_allowed_brands(self):
        registry = Registry("t", "brand")
        # The Pack of the arguments is one more, so is the Book of the fields, and its contents are two.
        self.assert_deepest(lambda more: nested(48 + more, Thing("t")), registry)
        self.assert_deepest(lambda more: nested(48 + more, Thing("brand")), registry)
        self.assert_deepest(lambda more: nested(47 + more, thing_with("t", ("n", 1))), registry)
        self.assert_deepest(lambda more: nested(47 + more, thing_with("t", ("n", 1), ("m", 2))), registry)
        self.assert_deepest(lambda more: nested(46 + more, thing_with("t", ("n", Row(1)))), registry)

    def test_things_of_entered_brands(self):
        registry = entered(Parts("n"), takes=1)
        self.assert_deepest(lambda more: nested(47 + more, thing_with("t", ("n", 1))), registry)
        self.assert_deepest(lambda more: nested(46 + more, thing_with("t", ("n", Row(1)))), registry)
        registry = entered(answering(((), 1)), build=print)
        self.assert_deepest(lambda more: nested(48 + more, Thing("t")), registry)
        registry = entered(answering(((), Row(1))), build=print)
        self.assert_deepest(lambda more: nested(47 + more, Thing("t")), registry)
        registry = entered(Whole(), build=print)
        self.assert_deepest(lambda more: nested(47 + more, thing_with("t", ("n", 1))), registry)

    def test_labels_of_outside_values_do_not_count(self):
        def outside(node):
            return "salt" if node.shape == "octets" else None

        self.assert_deepest(lambda more: nested(49 + more, Octets()), outside=outside)

    def test_too_deep_comes_first_for_every_value(self):
        wrong = entered(answering(((), [])), build=print)
        caught(InvalidValue, dump, nested(48, Thing("t")), wrong)
        caught(TooDeep, dump, nested(50, Thing("t")), Registry())
        caught(UnknownBrand, dump, nested(49, Thing("t")), Registry())
        caught(TooDeep, dump, nested(49, Thing("t")), wrong)
        caught(TooDeep, dump, nested(50, Octets()), outside=lambda node: 1 if node.shape == "octets" else None)
        caught(InvalidLabel, dump, nested(49, Octets()), outside=lambda node: 1 if node.shape == "octets" else None)
        below = entered(lambda thing: ((thing,), None), takes=1)
        caught(SelfArgument, dump, nested(47, Thing("t")), below)
        caught(TooDeep, dump, nested(48, Thing("t")), below)
        caught(InvalidReduction, dump, nested(49, Thing("t")), entered(answering(None)))

    def test_an_error_before_the_deep_place(self):
        deep = nested(50, 1)
        caught(UnknownBrand, dump, Pack(Thing("t"), deep))
        caught(TooDeep, dump, Pack(deep, Thing("t")))

    def test_what_is_written_whole_is_no_longer_open(self):
        registry = entered(Parts("n"), takes=1, build=print)
        registry.enter("u", None, answering(((), Row(1))), build=print)
        registry.allow("v")

        def many():
            row = Row()
            pack = Pack(row)
            row.put_last(pack)
            return (Row(1), pack, Book.of(((1, 2), (3, 4))), Bag(1, "a"), Octets(), thing_with("t", ("n", 1)),
                    Thing("u"),
                    Thing("v"), thing_with("v", ("n", 1)), "salt", 5)

        parts = [part for _ in range(60) for part in many()]
        self.assert_deepest(lambda more: Row(*parts, nested(48 + more, 1)), registry)

    def test_deep_but_outside(self):
        row = nested(60, Row())
        self.assertEqual(plain(dump(row, version=3, outside=answering("x"))), "text-short 'x'; outer-text")


class ThingTests(unittest.TestCase):
    def test_unknown_brands(self):
        for registry in (None, Registry(), Registry("u")):
            self.assertEqual(caught(UnknownBrand, dump, Thing("t"), registry).given, "t")
        registry = Registry("t")
        registry.forget("t")
        self.assertEqual(caught(UnknownBrand, dump, Row(Thing("t")), registry).given, "t")

    def test_a_thing_within_its_arguments(self):
        registry = entered(lambda thing: ((thing,), None), takes=1)
        self.assertEqual(caught(SelfArgument, dump, Thing("t"), registry).given, "t")
        registry = entered(lambda thing: ((Row(Pack(thing)),), None), takes=1)
        self.assertEqual(caught(SelfArgument, dump, Thing("t"), registry).given, "t")

    def test_a_thing_within_the_arguments_of_another_one(self):
        registry = entered(Parts("in"), takes=1)
        registry.enter("u", None, Parts("in"), takes=1)
        one, two = Thing("t"), Thing("u")
        one.set_field("in", two)
        two.set_field("in", one)
        self.assertEqual(caught(SelfArgument, dump, one, registry).given, "t")
        self.assertEqual(caught(SelfArgument, dump, two, registry).given, "u")
        two.set_field("in", two)
        self.assertEqual(caught(SelfArgument, dump, one, registry).given, "u")

    def test_a_thing_in_the_state_of_its_argument(self):
        registry = entered(Parts("in"), takes=1)
        registry.allow("u")
        one, two = Thing("t"), Thing("u")
        one.set_field("in", two)
        two.set_field("in", one)
        self.assertEqual(caught(SelfArgument, dump, one, registry).given, "t")
        # From the other side the one is made when the other one has its number.
        self.assertEqual(plain(dump(two, registry, version=3)),
                         "class-line u; pack-0; make; put-next; book; text-short 'in'; class-line t; get-octet 0; "
                         "pack-1; make; enter; build")

    def test_self_argument_comes_before_unknown_brand(self):
        def reduce(thing):
            registry.forget("t")
            return (thing,), None

        registry = entered(reduce, takes=1)
        self.assertEqual(caught(SelfArgument, dump, Thing("t"), registry).given, "t")
        self.assertEqual(caught(UnknownBrand, dump, Thing("t"), registry).given, "t")

    def test_what_is_no_reduction(self):
        class Pair(list):
            pass

        wrong = NEVER_VALUES + (None, 0, "ab", Row(), (), ((),), ((), None, None), [(), None], ([], None),
                                (None, None), ((1,), None), ((1, 2), None), (Row(), None), ((), 1), ((), False),
                                ((), Row()), ((), ""), Pair([(), None]), {1: (), 2: None})
        for answer in wrong:
            self.assertEqual(caught(InvalidReduction, dump, Thing("t"), entered(answering(answer))).given, "t")

    def test_the_number_of_arguments(self):
        for takes in (0, 1, 3, 20):
            for count in (0, 1, 2, 3, 4, 19, 20, 21):
                registry = entered(answering(((1,) * count, None)), takes=takes, build=print)
                if count == takes:
                    dump(Thing("t"), registry)
                else:
                    self.assertEqual(caught(InvalidReduction, dump, Thing("t"), registry).given, "t")

    def test_a_state_needs_a_build_hook(self):
        self.assertEqual(caught(InvalidReduction, dump, Thing("t"), entered(Whole())).given, "t")
        self.assertEqual(caught(InvalidReduction, dump, Thing("t"), entered(answering(((), [])))).given, "t")
        dump(Thing("t"), entered(Whole(), build=print))
        dump(Thing("t"), entered(answering(((), None))))

    def test_what_is_in_a_reduction_is_not_looked_into_for_this(self):
        registry = entered(answering((([],), {})), takes=1, build=print)
        self.assertEqual(caught(InvalidValue, dump, Thing("t"), registry).value, [])


class LengthTests(unittest.TestCase):
    def test_the_longest_streams(self):
        # The header and the opcodes row, mark, append-all, stop; in version 1 only row and stop.
        for version, around in ((1, 2), (2, 6), (3, 6)):
            self.assertEqual(len(dump(self.long_value(version, 50000 - around), version=version)), 50000)
            error = caught(TooLong, dump, self.long_value(version, 50001 - around), version=version)
            self.assertEqual(error.limit, 50000)

    def long_value(self, version, length):
        """Return a Row whose items are written with so many octets."""
        if version == 1:
            # true and append; the last text has its opcode, the newline and append.
            count = length // 2 - 5
            return Row(*[True] * count, "a" * (length - 2 * count - 3))
        return Row(*[True] * length)

    def test_frames_count(self):
        # The header, 725 frames with 5 octets in front of each, and row, mark, append-all, stop.
        count = 50000 - 2 - 725 * 5 - 4
        self.assertEqual(len(dump(Row(*[True] * count))), 50000)
        self.assertEqual(caught(TooLong, dump, Row(*[True] * (count + 1))).limit, 50000)

    def test_at_last(self):
        long = Row(*[True] * 60000)
        caught(UnknownBrand, dump, Pack(long, Thing("t")))
        caught(TooDeep, dump, Pack(long, nested(50, 1)))
        caught(TooLong, dump, Pack(long, 1))

    def test_puts_that_are_left_out_do_not_count(self):
        rows = Row(*[Row() for _ in range(40000)])
        self.assertEqual(len(dump(rows, version=3)), 40006)


if __name__ == "__main__":
    unittest.main()
