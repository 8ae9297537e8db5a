"""Point 12: what drafts know, and a dry run that goes on with the memo of another one."""

import unittest

from brinejar.drafts import shape_of
from brinejar.dryrun import DryRun
from brinejar.errors import Refused
from tests.helpers import caught
from tests.refusing import hooks, stream_of_words

NUMBERED = ("mark", "pack", "make", ("put-line", 0), "stop")


class DraftTests(unittest.TestCase):
    def memo_of(self, *words):
        """Return the memo behind the dry run of these opcodes."""
        memo = {}
        DryRun(stream_of_words(1, *words), hooks(), True, memo).finish()
        return memo

    def test_an_entered_thing_knows_its_brand_its_arguments_and_states(self):
        thing = self.memo_of(("class-line", "two"), "mark", ("outer-line", "x"), "row", "pack", "make", ("put-line", 0),
                             ("text-line", "y"), "build", "none", "build", "stop")[0]
        self.assertEqual((shape_of(thing), thing.brand), ("thing", "two"))
        self.assertEqual([shape_of(draft) for draft in thing.arguments], ["outside", "row"])
        self.assertEqual(thing.arguments[0].label, "x")
        self.assertEqual(thing.buildings, [("y", ()), (None, ())])

    def test_an_allowed_thing_knows_the_fields_that_the_book_had_when_it_was_built(self):
        memo = self.memo_of(("class-line", "a.b"), "mark", "pack", "make", ("put-line", 0), "book", ("put-line", 1),
                            ("text-line", "n"), "true", "enter", "build", ("get-line", 1), ("text-line", "m"), "true",
                            "enter", "drop", "stop")
        self.assertEqual((memo[0].brand, memo[0].arguments), ("a.b", ()))
        self.assertEqual(memo[0].buildings, [(None, (("n", True),))])
        self.assertEqual(memo[1].pairs, (("n", True), ("m", True)))

    def test_a_thing_of_a_brand_that_was_forgotten_since(self):
        for brand in ("allowed", "build"):
            memo, registry = {}, hooks()
            DryRun(stream_of_words(1, ("class-line", brand), *NUMBERED), registry, False, memo).finish()
            stream = stream_of_words(1, ("get-line", 0), "book", "build", "stop")
            DryRun(stream, registry, False, memo).finish()
            registry.forget(brand)
            error = caught(Refused, DryRun(stream, registry, False, memo).finish)
            self.assertEqual((error.offset, error.reason), (4, "kind"))


if __name__ == "__main__":
    unittest.main()
