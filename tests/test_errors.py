"""Promise 1: the errors, their families and their fields."""

import inspect
import unittest

from brinejar import errors
from tests.helpers import NEVER_VALUES

FAMILIES = {"JarError": ValueError, "StateError": RuntimeError, "MissingError": LookupError}

FIELDS = {
    "JarError": {
        "InvalidValue": ("value",), "InvalidNumbers": ("value",), "InvalidKey": ("key",),
        "InvalidIndex": ("index",), "InvalidBrand": ("given",), "InvalidTakes": ("value",),
        "InvalidVersion": ("value",), "InvalidStream": ("value",), "InvalidLabel": ("value",),
        "InvalidReduction": ("given",), "InvalidMade": ("given",), "InvalidRow": ("position",),
        "InvalidName": ("given",), "InvalidEdit": ("position",), "InvalidText": ("offset",),
        "Refused": ("offset", "reason"), "NotCanonical": ("offset",),
    },
    "StateError": {
        "TooDeep": ("limit",), "TooLong": ("limit",), "SelfArgument": ("given",),
        "KeyTaken": ("key",), "BrandTaken": ("given",), "Full": ("limit",),
    },
    "MissingError": {
        "UnknownBrand": ("given",), "NoEntry": ("key",), "NoName": ("given",),
        "NothingToUndo": ("count",),
    },
}

RAISED = [(family, name, fields) for family, rows in FIELDS.items() for name, fields in rows.items()]


class FamilyTests(unittest.TestCase):
    def test_each_family_is_directly_under_an_error_of_python(self):
        for name, base in FAMILIES.items():
            self.assertEqual(getattr(errors, name).__bases__, (base,), name)

    def test_each_error_is_directly_under_its_family(self):
        for family, name, _ in RAISED:
            self.assertEqual(getattr(errors, name).__bases__, (getattr(errors, family),), name)

    def test_there_are_these_classes_and_no_others(self):
        named = {name for _, name, _ in RAISED} | set(FAMILIES)
        found = {name for name, _ in inspect.getmembers(errors, inspect.isclass)}
        self.assertEqual(found, named)
        for name in named:
            self.assertEqual(getattr(errors, name).__module__, "brinejar.errors")

    def test_no_instance_of_one_class_is_an_instance_of_another(self):
        for _, name, fields in RAISED:
            error = getattr(errors, name)(*fields)
            kinds = [other for _, other, _ in RAISED if isinstance(error, getattr(errors, other))]
            self.assertEqual(kinds, [name])
            families = [other for other in FAMILIES if isinstance(error, getattr(errors, other))]
            self.assertEqual(len(families), 1, name)


class FieldTests(unittest.TestCase):
    def test_the_parameters_are_the_fields_in_their_order(self):
        for _, name, fields in RAISED:
            parameters = inspect.signature(getattr(errors, name)).parameters
            self.assertEqual(tuple(parameters), fields, name)

    def test_fields_by_position_and_by_name(self):
        for _, name, fields in RAISED:
            made = getattr(errors, name)
            worths = [object() for _ in fields]
            by_position = made(*worths)
            by_name = made(**dict(zip(fields, worths)))
            for field, worth in zip(fields, worths):
                self.assertIs(getattr(by_position, field), worth)
                self.assertIs(getattr(by_name, field), worth)

    def test_any_object_can_be_a_field(self):
        for _, name, fields in RAISED:
            for worth in (None, True, *NEVER_VALUES):
                error = getattr(errors, name)(*([worth] * len(fields)))
                for field in fields:
                    self.assertIs(getattr(error, field), worth)

    def test_a_constructor_takes_its_fields_and_no_others(self):
        for _, name, fields in RAISED:
            made = getattr(errors, name)
            with self.assertRaises(TypeError):
                made()
            with self.assertRaises(TypeError):
                made(*([1] * (len(fields) + 1)))
            with self.assertRaises(TypeError):
                made(other=1)

    def test_an_error_can_be_caught_by_its_family(self):
        for family, name, fields in RAISED:
            for caught_as in (getattr(errors, family), FAMILIES[family]):
                with self.assertRaises(caught_as):
                    raise getattr(errors, name)(*fields)


if __name__ == "__main__":
    unittest.main()
