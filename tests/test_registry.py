"""Points 4 and 15: the registry, and its part of the interface."""

import inspect
import unittest

from brinejar import registry as module
from brinejar.errors import BrandTaken, InvalidBrand, InvalidTakes, UnknownBrand
from brinejar.registry import Registry
from tests.helpers import NEVER_VALUES, Stranger, caught

BRANDS = ("a", "Z", "shop.item", "a_b", "a9", "a.", "a..b", "a_", "b" * 40, "Bag", "bags", "ba", "bag.", "none")
NEVER_BRANDS = NEVER_VALUES + (None, True, False, 0, 1, "", "bag", "1a", ".a", "_a", " a", "a ", "a b", "a\n",
                               "\na", "a-b", "a\\", "a/b", "a" * 41, b"a", ("a",))
NEVER_TAKES = NEVER_VALUES + (None, True, False, -1, 21, 10 ** 9, "1", "")


def never_called(*given):
    """Fail: no hook is called by a registry."""
    raise AssertionError(given)


class RegistryTests(unittest.TestCase):
    def assert_holds(self, registry, *brands):
        """Check all that a registry tells of its brands."""
        self.assertEqual(registry.brands, tuple(sorted(brands)))
        self.assertIs(type(registry.brands), tuple)
        self.assertEqual(len(registry), len(brands))
        for brand in BRANDS:
            self.assertIs(brand in registry, brand in brands)
            self.assertIs(brand not in registry, brand not in brands)

    def test_an_empty_registry(self):
        self.assert_holds(Registry())

    def test_brands_of_the_constructor(self):
        registry = Registry(*BRANDS)
        self.assert_holds(registry, *BRANDS)
        self.assertEqual([registry.takes_of(brand) for brand in BRANDS], [0] * len(BRANDS))

    def test_brands_ascend(self):
        registry = Registry("b", "a10", "a9", "B", "a")
        registry.enter("ab", never_called, never_called)
        self.assertEqual(registry.brands, ("B", "a", "a10", "a9", "ab", "b"))

    def test_the_constructor_has_the_errors_of_allow(self):
        for wrong in NEVER_BRANDS:
            self.assertIs(caught(InvalidBrand, Registry, "a", wrong, "a").given, wrong)
        self.assertEqual(caught(BrandTaken, Registry, "a", "b", "a", "bag").given, "a")
        self.assertEqual(caught(InvalidBrand, Registry, "a", "b", "bag", "a").given, "bag")

    def test_allow(self):
        registry = Registry()
        for count, brand in enumerate(BRANDS, start=1):
            self.assertIsNone(registry.allow(brand))
            self.assert_holds(registry, *BRANDS[:count])

    def test_enter(self):
        registry = Registry("a")
        self.assertIsNone(registry.enter("b", never_called, never_called))
        self.assertIsNone(registry.enter("a9", never_called, never_called, takes=20))
        self.assertIsNone(registry.enter("a_", never_called, never_called, build=never_called))
        self.assertIsNone(registry.enter(brand="Z", make=never_called, reduce=never_called, takes=0, build=None))
        self.assertIsNone(registry.enter("bags", never_called, never_called, build=never_called, takes=1))
        self.assertEqual(registry.brands, ("Z", "a", "a9", "a_", "b", "bags"))
        self.assertEqual([registry.takes_of(brand) for brand in registry.brands], [0, 0, 20, 0, 0, 1])

    def test_every_number_of_arguments(self):
        registry = Registry()
        for takes in range(21):
            registry.enter(f"a{takes}", never_called, never_called, takes=takes)
            self.assertEqual(registry.takes_of(f"a{takes}"), takes)

    def test_hooks_are_not_looked_at(self):
        registry = Registry()
        for number, hook in enumerate(NEVER_VALUES + (None, 5)):
            registry.enter(f"a{number}", hook, hook, build=hook)
        self.assertEqual(len(registry), len(NEVER_VALUES) + 2)

    def test_takes_and_build_are_passed_by_name(self):
        with self.assertRaises(TypeError):
            Registry().enter("a", never_called, never_called, 1)

    def test_no_brand(self):
        registry = Registry("a")
        for wrong in NEVER_BRANDS:
            self.assertIs(caught(InvalidBrand, registry.allow, wrong).given, wrong)
            self.assertIs(caught(InvalidBrand, registry.enter, wrong, None, None, takes=21).given, wrong)
            self.assertIs(caught(UnknownBrand, registry.forget, wrong).given, wrong)
            self.assertIs(caught(UnknownBrand, registry.takes_of, wrong).given, wrong)
            self.assertIs(wrong in registry, False)
        self.assert_holds(registry, "a")

    def test_a_brand_is_known_once(self):
        registry = Registry("a")
        registry.enter("b", never_called, never_called, takes=3)
        for brand in ("a", "b"):
            self.assertEqual(caught(BrandTaken, registry.allow, brand).given, brand)
            self.assertEqual(caught(BrandTaken, registry.enter, brand, None, None, takes=-1).given, brand)
        self.assert_holds_a_and_b(registry)

    def assert_holds_a_and_b(self, registry):
        self.assertEqual(registry.brands, ("a", "b"))
        self.assertEqual((registry.takes_of("a"), registry.takes_of("b")), (0, 3))

    def test_wrong_numbers_of_arguments_change_nothing(self):
        registry = Registry()
        for wrong in NEVER_TAKES:
            self.assertIs(caught(InvalidTakes, registry.enter, "a", None, None, takes=wrong).value, wrong)
            self.assert_holds(registry)

    def test_forget(self):
        registry = Registry("a", "Z")
        registry.enter("a9", never_called, never_called, takes=2)
        self.assertIsNone(registry.forget("a9"))
        self.assert_holds(registry, "a", "Z")
        self.assertEqual(caught(UnknownBrand, registry.takes_of, "a9").given, "a9")
        self.assertEqual(caught(UnknownBrand, registry.forget, "a9").given, "a9")
        registry.forget(brand="Z")
        self.assert_holds(registry, "a")

    def test_a_forgotten_brand_can_be_known_again(self):
        registry = Registry("a")
        registry.forget("a")
        registry.enter("a", never_called, never_called, takes=2)
        self.assertEqual(registry.takes_of(brand="a"), 2)
        registry.forget("a")
        registry.allow(brand="a")
        self.assertEqual(registry.takes_of("a"), 0)

    def test_in_takes_any_object(self):
        registry = Registry("a")
        for thing in (Stranger(), [], {}, ["a"], ("a",), {"a": 1}, b"a", 1.5, None, registry, "bag"):
            self.assertIs(thing in registry, False)

    def test_a_twin_goes_on_alone(self):
        registry = Registry("a")
        registry.enter("b", never_called, never_called, takes=3)
        twin = registry.twin()
        self.assertIs(type(twin), Registry)
        self.assertIsNot(twin, registry)
        self.assert_holds_a_and_b(twin)
        twin.allow("Z")
        twin.forget("a")
        self.assert_holds_a_and_b(registry)
        registry.forget("b")
        registry.allow("a9")
        self.assertEqual((twin.brands, registry.brands), (("Z", "b"), ("a", "a9")))
        self.assertEqual(twin.takes_of("b"), 3)

    def test_the_interface_as_it_is_written(self):
        self.assertEqual(Registry.__module__, module.__name__)
        methods = {"allow": ["brand"], "forget": ["brand"], "takes_of": ["brand"], "twin": [],
                   "enter": ["brand", "make", "reduce", "takes", "build"]}
        for name, parameters in methods.items():
            self.assertEqual(list(inspect.signature(vars(Registry)[name]).parameters), ["self"] + parameters)
        self.assertIsInstance(vars(Registry)["brands"], property)
        with self.assertRaises(AttributeError):
            Registry().brands = ()


if __name__ == "__main__":
    unittest.main()
