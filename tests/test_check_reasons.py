"""Points 11 and 12: the reasons of the dry run, opcode by opcode, in their order."""

import unittest

from tests.refusing import hooks, reason_of, right_in, versions_of

TEXT = ("text-line", "salt")
KEY = ("integer-line", 7)
BRAND = ("class-line", "allowed")
BAG = ("class-line", "bag")
OUTER = ("outer-line", "x")
PACK = ("mark", "pack")
THING = (BRAND, *PACK, "make")
# Each of them pushes one value; with the word for its shape.
VALUES = {
    "none": ("none",), "truth": ("true",), "integer": (KEY,), "text": (TEXT,), "octets": (("octets-line", (1,)),),
    "pack": PACK, "row": ("row",), "book": ("book",), "bag": (BAG, "mark", "row", "pack", "make"), "thing": THING,
    "outside": (OUTER,),
}


def values_but(*shapes):
    """Return the words that push a value of each shape but these."""
    return [words for shape, words in VALUES.items() if shape not in shapes]


class ReasonTests(unittest.TestCase):
    def assert_reason(self, reason, *cases, **given):
        for words in cases:
            self.assertEqual(reason_of(*words, has_outside=True, **given), reason, words)

    def assert_right(self, *cases, **given):
        for words in cases:
            for version in versions_of(words):
                self.assertTrue(right_in(version, *words, has_outside=True, **given), words)


class StackTests(ReasonTests):
    def test_too_few_values_above_the_last_mark(self):
        needs = {"drop": 1, "append": 2, "enter": 3, ("put-line", 0): 1, "put-next": 1, ("put-octet", 0): 1,
                 ("put-wide", 0): 1, "class-text": 1, "make": 2, "build": 2, "outer-text": 1, "pack-1": 1, "pack-2": 2,
                 "pack-3": 3}
        for name, count in needs.items():
            for few in range(count):
                self.assert_reason("stack", ["true"] * few + [name], ["mark"] + ["true"] * few + [name],
                                   ["true"] * count + ["mark"] + ["true"] * few + [name],
                                   [BRAND] * few + [name])

    def test_no_mark(self):
        for name in ("drop-to-mark", "pack", "append-all", "enter-all", "add-all"):
            self.assert_reason("stack", [name], ["true", name], ["true", "true", "true", name], ["row", name],
                               ["row", "mark", "drop-to-mark", name])

    def test_no_value_directly_below_the_mark(self):
        for name in ("append-all", "enter-all", "add-all"):
            self.assert_reason("stack", ["mark", name], ["mark", TEXT, TEXT, name], ["mark", "mark", name],
                               ["row", "mark", "mark", name], ["book", "mark", "mark", TEXT, TEXT, name])

    def test_an_odd_number_of_values_for_enter_all(self):
        self.assert_reason("stack", ["book", "mark", TEXT, "enter-all"], ["book", "mark", "none", "enter-all"],
                           ["row", "mark", BRAND, "enter-all"], ["book", "mark", TEXT, "none", "none", "enter-all"])

    def test_stop(self):
        self.assert_reason("stack", ["stop"], ["mark", "stop"], ["true", "mark", "stop"], ["mark", "true", "stop"],
                           ["true", "true", "stop"], ["true", "mark", "true", "stop"], ["true", "drop", "stop"],
                           [BRAND, BRAND, "stop"], ["true", "mark", "mark", "stop"])
        self.assert_right(["true"], ["true", "mark", "true", "drop-to-mark"], ["mark", "true", "pack"])

    def test_nothing_is_needed(self):
        self.assert_right(["mark", "true", "pack"], ["pack-0"], ["mark", "mark", "drop-to-mark", "true", "pack"])
        self.assert_right(["true", "mark", "drop-to-mark"], ["true", "true", "drop"], ["row", "mark", "append-all"],
                          ["book", "mark", "enter-all"], ["bag", "mark", "add-all"])


class KindTests(ReasonTests):
    def test_classes_occur_nowhere_else(self):
        self.assert_reason("kind", ["row", BRAND, "append"], ["row", "mark", BRAND, "append-all"],
                           ["row", "mark", "true", BRAND, "true", "append-all"], ["mark", BRAND, "pack"],
                           ["mark", "true", BRAND, "true", "pack"], [BRAND, "pack-1"], [BRAND, "true", "pack-2"],
                           ["true", BRAND, "pack-2"], [BRAND, "true", "true", "pack-3"],
                           ["true", BRAND, "true", "pack-3"],
                           ["book", KEY, BRAND, "enter"], ["book", BRAND, "true", "enter"],
                           ["book", "mark", KEY, BRAND, "enter-all"], ["book", "mark", BRAND, KEY, "enter-all"],
                           ["book", "mark", KEY, KEY, KEY, BRAND, "enter-all"], ["bag", "mark", BRAND, "add-all"],
                           [BRAND, "true", "append"], [BRAND, "mark", "append-all"],
                           [BRAND, "mark", "enter-all"], [BRAND, "mark", "add-all"], [BRAND, ("put-line", 0)],
                           [BRAND, "put-next"], [BRAND, "class-text"], [BRAND, "outer-text"], [BRAND, BRAND, "make"],
                           [*THING, BRAND, "build"], [BRAND, "book", "build"], [BRAND, "stop"])

    def test_classes_can_be_dropped(self):
        self.assert_right(["true", BRAND, "drop"], ["true", "mark", BRAND, BRAND, "drop-to-mark"],
                          ["mark", BRAND, "drop", "pack"])

    def test_append_needs_a_row(self):
        for words in values_but("row"):
            self.assert_reason("kind", [*words, "true", "append"], [*words, "mark", "append-all"],
                               [*words, "mark", "true", "append-all"])
        for words in VALUES.values():
            self.assert_right(["row", *words, "append"], ["row", "mark", *words, *words, "append-all"])

    def test_enter_needs_a_book_and_keys(self):
        for words in values_but("book"):
            self.assert_reason("kind", [*words, KEY, "true", "enter"], [*words, "mark", "enter-all"],
                               [*words, "mark", KEY, "true", "enter-all"])
        for words in values_but("integer", "text"):
            self.assert_reason("kind", ["book", *words, KEY, "enter"], ["book", "mark", *words, KEY, "enter-all"],
                               ["book", "mark", KEY, KEY, *words, KEY, "enter-all"])
        for words in VALUES.values():
            self.assert_right(["book", KEY, *words, "enter"], ["book", "mark", KEY, *words, TEXT, *words, "enter-all"])

    def test_add_all_needs_a_bag_and_keys(self):
        for words in values_but("bag"):
            self.assert_reason("kind", [*words, "mark", "add-all"], [*words, "mark", KEY, "add-all"])
        for words in values_but("integer", "text"):
            self.assert_reason("kind", ["bag", "mark", *words, "add-all"],
                               ["bag", "mark", KEY, *words, TEXT, "add-all"])
        self.assert_right(["bag", "mark", KEY, TEXT, "add-all"], [BAG, "row", "pack-1", "make", "mark", KEY, "add-all"])

    def test_class_text_and_outer_text_need_texts(self):
        for words in values_but("text"):
            self.assert_reason("kind", [*words, "class-text"], [*words, "outer-text"])
        self.assert_right([("text-line", "allowed"), "class-text", "pack-0", "make"], [TEXT, "outer-text"])

    def test_put_needs_a_text_or_a_node(self):
        puts = (("put-line", 0), ("put-octet", 0), ("put-wide", 0), "put-next")
        for put in puts:
            for shape in ("none", "truth", "integer", "outside"):
                self.assert_reason("kind", [*VALUES[shape], put])
            for words in values_but("none", "truth", "integer", "outside"):
                self.assert_right([*words, put])
            self.assert_right([("text-line", ""), put])

    def test_make_needs_a_class_and_a_pack(self):
        for words in VALUES.values():
            self.assert_reason("kind", [*words, *PACK, "make"])
        for words in values_but("pack"):
            self.assert_reason("kind", [BRAND, *words, "make"], [BAG, *words, "make"])
        self.assert_reason("kind", [*PACK, BRAND, "make"])
        self.assert_right(THING, [BRAND, *PACK, ("put-line", 0), "make"])

    def test_a_bag_is_made_of_a_row_of_keys(self):
        for words in values_but("row"):
            self.assert_reason("kind", [BAG, "mark", *words, "pack", "make"])
        for words in values_but("integer", "text"):
            self.assert_reason("kind", [BAG, "mark", "row", *words, "append", "pack", "make"],
                               [BAG, "row", "mark", KEY, *words, TEXT, "append-all", "pack-1", "make"])
        self.assert_right([BAG, "mark", "row", "pack", "make"], [BAG, "row", "mark", KEY, TEXT, "append-all", "pack-1",
                                                                 "make"])

    def test_build_needs_a_thing(self):
        for words in values_but("thing"):
            self.assert_reason("kind", [*words, "book", "build"])

    def test_an_allowed_thing_is_built_with_a_book_of_labels(self):
        for words in values_but("book"):
            self.assert_reason("kind", [*THING, *words, "build"])
        self.assert_reason("kind", [*THING, "book", KEY, "true", "enter", "build"],
                           [*THING, "book", "mark", TEXT, "true", KEY, "true", "enter-all", "build"])
        self.assert_right([*THING, "book", "build"], [*THING, "book", TEXT, "true", "enter", "build"],
                          [*THING, "book", "build", "book", "build"])

    def test_an_entered_thing_is_built_with_any_value(self):
        built = (("class-line", "build"), *PACK, "make")
        for words in VALUES.values():
            self.assert_right([*built, *words, "build"])
        self.assert_reason("kind", [*built, BRAND, "build"])

    def test_an_entered_thing_without_a_build_hook_is_not_built(self):
        for words in VALUES.values():
            self.assert_reason("kind", [("class-line", "none"), *PACK, "make", *words, "build"])

    def test_stop_does_not_accept_a_class(self):
        self.assert_reason("kind", [BRAND, "stop"], [BAG, "stop"], ["true", "drop", BRAND, "stop"])
        for words in VALUES.values():
            self.assert_right(words)

    def test_an_outside_value_has_only_this_shape(self):
        self.assert_reason("kind", [OUTER, "true", "append"], [OUTER, KEY, "true", "enter"], [OUTER, "book", "build"],
                           [OUTER, "class-text"], ["book", OUTER, "true", "enter"], ["bag", "mark", OUTER, "add-all"],
                           [BRAND, OUTER, "make"], [OUTER, *PACK, "make"], [*THING, OUTER, "build"])


class KeyTests(ReasonTests):
    def test_a_key_that_is_in_the_book(self):
        one = ["book", KEY, "true", "enter"]
        self.assert_reason("key", [*one, KEY, "true", "enter"], [*one, "mark", KEY, "true", "enter-all"],
                           [*one, "mark", TEXT, "true", KEY, "true", "enter-all"])
        self.assert_right([*one, TEXT, "true", "enter"], [*one, "mark", TEXT, "true", "enter-all"],
                          [*one, ("text-line", "7"), "true", "enter"])

    def test_a_key_that_occurs_twice(self):
        self.assert_reason("key", ["book", "mark", KEY, "true", KEY, "true", "enter-all"],
                           ["book", "mark", TEXT, "true", KEY, "true", TEXT, "none", "enter-all"],
                           ["bag", "mark", KEY, KEY, "add-all"], ["bag", "mark", TEXT, KEY, TEXT, "add-all"])

    def test_a_key_that_is_in_the_bag(self):
        bags = (["bag", "mark", KEY, TEXT, "add-all"],
                [BAG, "row", "mark", KEY, TEXT, "append-all", "pack-1", "make"])
        for bag in bags:
            for key in (KEY, TEXT):
                self.assert_reason("key", [*bag, "mark", key, "add-all"],
                                   [*bag, "mark", ("integer-line", 1), key, "add-all"])
            self.assert_right([*bag, "mark", ("integer-line", 1), "add-all"])

    def test_a_key_that_occurs_twice_in_the_row(self):
        for keys in ((KEY, KEY), (TEXT, KEY, TEXT)):
            self.assert_reason("key", [BAG, "row", "mark", *keys, "append-all", "pack-1", "make"])

    def test_integers_in_other_forms_are_the_same_key(self):
        for one in (("integer-octet", 7), ("integer-counted", 7)):
            self.assert_reason("key", ["book", "mark", KEY, "true", one, "true", "enter-all"])

    def test_kind_comes_before_key(self):
        one = ["book", KEY, "true", "enter"]
        self.assert_reason("kind", [*one, KEY, BRAND, "enter"],
                           [*one, "mark", KEY, "true", "none", "true", "enter-all"],
                           ["bag", "mark", KEY, KEY, "none", "add-all"], ["row", "mark", KEY, KEY, "add-all"],
                           [BAG, "row", "mark", KEY, KEY, "none", "append-all", "pack-1", "make"])


class MemoTests(ReasonTests):
    def test_a_number_is_given_once(self):
        puts = (("put-line", 0), ("put-octet", 0), ("put-wide", 0), "put-next")
        for first in puts:
            for second in puts[:3]:
                self.assert_reason("memo", ["row", first, second], ["row", first, "mark", TEXT, second],
                                   ["row", first, "drop", "row", second])
        self.assert_right(["row", "put-next", "put-next"], ["row", ("put-line", 0), ("put-line", 1)])

    def test_put_next_takes_the_size_of_the_memo(self):
        self.assert_reason("memo", ["row", ("put-line", 1), "put-next"],
                           ["row", ("put-line", 2), "put-next", "put-next"])
        self.assert_right(["row", ("put-line", 2), "put-next", ("get-line", 1), "append"],
                          ["row", "put-next", ("get-line", 0), "append"])

    def test_get_needs_a_number_that_is_given(self):
        for get in ("get-line", "get-octet", "get-wide"):
            self.assert_reason("memo", [(get, 0)], ["row", ("put-line", 1), (get, 0)],
                               ["row", ("put-line", 1), (get, 2)])
            self.assert_right(["row", ("put-line", 7), (get, 7), "append"])
            self.assert_right(["row", ("put-wide", 255), (get, 255), "append"])

    def test_the_greatest_number(self):
        puts = ["put-next"] * 10000
        self.assert_right(["row", *puts], ["row", ("put-line", 9999)])
        self.assert_reason("memo", ["row", *puts, "put-next"])
        self.assert_right(["row", *puts, ("get-wide", 9999), "append"])

    def test_kind_comes_before_memo(self):
        self.assert_reason("kind", ["row", ("put-line", 0), "true", ("put-line", 0)])
        self.assert_reason("stack", ["row", ("put-line", 0), "drop", ("put-line", 0)])

    def test_a_class_and_an_outside_value_are_not_given_numbers(self):
        self.assert_reason("kind", [BAG, ("put-line", 0)], [OUTER, ("put-line", 0)])


class ClassTests(ReasonTests):
    def test_unknown_brands(self):
        for brand in ("allowe", "allowed.", "unknown", "Bag", "a.b.", "a"):
            self.assert_reason("class", [("class-line", brand)], [("text-line", brand), "class-text"])

    def test_texts_that_are_no_brands(self):
        for text in ("", " ", "1a", "allowed ", "a b", "a\n", "a" * 41, "a" * 2000):
            self.assert_reason("class", [("text-line", text), "class-text"])

    def test_bag_is_always_known(self):
        for words in ([BAG], [("text-line", "bag"), "class-text"]):
            self.assert_right([*words, "row", "pack-1", "make"])
            self.assert_reason("class", [*words, *PACK, "make"], [*words, "row", "true", "pack-2", "make"],
                               [*words, "mark", "row", "row", "row", "row", "pack", "make"])

    def test_the_number_of_arguments(self):
        for brand, takes in (("allowed", 0), ("none", 0), ("two", 2)):
            for count in range(5):
                words = [("class-line", brand), "mark", *["true"] * count, "pack", "make"]
                if count == takes:
                    self.assert_right(words)
                else:
                    self.assert_reason("class", words)

    def test_a_registry_that_changes(self):
        registry = hooks()
        registry.forget("allowed")
        self.assert_reason("class", [BRAND], registry=registry)
        registry.allow("allowed")
        self.assert_right(THING, registry=registry)


class OuterTests(unittest.TestCase):
    def test_no_outside_function(self):
        self.assertEqual(reason_of(OUTER), "outer")
        self.assertEqual(reason_of(TEXT, "outer-text"), "outer")
        self.assertEqual(reason_of("true", "outer-text"), "kind")
        self.assertEqual(reason_of("outer-text"), "stack")


if __name__ == "__main__":
    unittest.main()
