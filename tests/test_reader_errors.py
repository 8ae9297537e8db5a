"""Points 1, 3 and 24: a read that ends with an error, and what later streams of the same reader find then."""

import random
import unittest

from brinejar.crews import NotingCrew
from brinejar.dryrun import DryRun
from brinejar.errors import InvalidMade, Refused
from brinejar.makers import Fields
from brinejar.registry import Registry
from brinejar.sessions import Reader
from tests.helpers import caught
from tests.refusing import SINCE, never_called, rows_of, stream_of_words
from tests.test_readers import got, put

VERSIONS = (1, 2, 3, 4)
ONE, TWO, N = ("integer-line", 1), ("integer-line", 2), ("text-line", "n")
THING = ("class-line", "t"), "mark", "pack", "make"
FAILING = ("class-line", "failing"), "mark", "pack", "make"
BAG_OF = ("class-line", "bag"), "mark"
ROW, BOOK, BAG, BUILT, PACK, TEXT = range(6)
# What begins a reader: a node of each shape that opcodes change, a Pack with the Row, and a text.
BEGINNING = ("mark", "row", put(ROW), "book", put(BOOK), "bag", put(BAG), *THING, put(BUILT), "mark", got(ROW), "pack",
             put(PACK), N, put(TEXT), "pack")
# Each opcode that changes a node, with what it does to one of the beginning.
CHANGES = {
    "append": (got(ROW), "none", "append"),
    "append-all": (got(ROW), "mark", ONE, "none", ONE, "append-all"),
    "enter": (got(BOOK), ONE, "none", "enter"),
    "enter-all": (got(BOOK), "mark", TWO, "none", got(TEXT), got(ROW), "enter-all"),
    "add-all": (got(BAG), "mark", ONE, got(TEXT), "add-all"),
    "build": (got(BUILT), "book", N, ONE, "enter", "build"),
}
KEYS = (1, 2, "n", "m")


def first_version(words):
    """Return the first version that has all these opcodes."""
    return max(SINCE[name] for name, _ in rows_of(words))


def key_word(key):
    """Return the row of a key."""
    return ("integer-line" if isinstance(key, int) else "text-line"), key


class ReaderErrorTests(unittest.TestCase):
    def reader(self):
        """Return a reader that has read the beginning, and the list of its nodes."""
        registry = Registry("t")
        registry.enter("failing", lambda arguments: None, never_called)
        registry.enter("entered", Fields("entered"), never_called, build=lambda thing, state: None)
        reader = Reader(registry)
        whole = reader.read(stream_of_words(4, *BEGINNING, "stop"))
        self.assertEqual(reader.memo_size, 6)
        return reader, [part for part in whole.parts if part != "n"]

    def outcome(self, reader, version, *words):
        """Return the pair of None and the result, or of the reason with which the stream is refused and None."""
        try:
            return None, reader.read(stream_of_words(version, *words))
        except Refused as error:
            return error.reason, None

    def assert_drafts_know(self, reader, nodes):
        """Check by refused streams that each node of the beginning is to the reader what it is."""
        row, book, bag, thing, pack = nodes
        for key in KEYS:
            taken = key in dict(book.pairs)
            words = (got(BOOK), key_word(key), "none", "enter")
            self.assertEqual(self.outcome(reader, 1, *words), ("key" if taken else "end", None))
            words = (got(BAG), "mark", key_word(key), "add-all")
            self.assertEqual(self.outcome(reader, 4, *words), ("key" if key in bag.members else "end", None))
        reason = "end" if len(set(row.parts)) == len(row.parts) else "key"
        if [part for part in row.parts if part not in KEYS]:
            reason = "kind"
        self.assertEqual(self.outcome(reader, 1, *BAG_OF, got(ROW), "pack", "make"), (reason, None))
        self.assertEqual(self.outcome(reader, 1, ("class-line", "bag"), got(PACK), "make"), (reason, None))


class RefusedTests(ReaderErrorTests):
    def contents(self, nodes):
        """Return what is in the nodes."""
        return [list(node.children()) for node in nodes]

    def test_each_opcode_that_changes_a_node(self):
        for name, words in CHANGES.items():
            for version in range(first_version(words), 5):
                reader, nodes = self.reader()
                before = self.contents(nodes)
                for _ in range(2):
                    self.assertEqual(self.outcome(reader, version, *words), ("end", None))
                    self.assertEqual(self.contents(nodes), before)
                    self.assert_drafts_know(reader, nodes)
                self.assertEqual(self.outcome(reader, version, *words, "stop")[0], None)
                self.assertNotEqual(self.contents(nodes), before, name)
                self.assert_drafts_know(reader, nodes)

    def test_whatever_the_reason_is(self):
        ends = {"stack": ("drop", "drop"), "kind": ("none", "append"), "end": (), "memo": (got(9),),
                "class": (("class-line", "x"),), "outer": (("outer-line", "x"),), "frame": ("stop", "none")}
        changes = [word for words in CHANGES.values() for word in (*words, "drop")]
        for reason, end in ends.items():
            reader, nodes = self.reader()
            before = self.contents(nodes)
            self.assertEqual(self.outcome(reader, 4, *changes, got(BOOK), *end), (reason, None))
            self.assertEqual(self.contents(nodes), before)
            self.assert_drafts_know(reader, nodes)
            self.assertEqual(self.outcome(reader, 4, *changes, "none", "stop"), (None, None))
            self.assertEqual([len(content) for content in self.contents(nodes)], [4, 6, 2, 2, 1])
            self.assert_drafts_know(reader, nodes)

    def test_wrong_octets_behind_a_change(self):
        for end, offset, reason in (((255,), 13, "opcode"), ((167,), 13, "end"), ((190, 10), 13, "argument"),
                                    ((161, 2), 13, "opcode"), ((160, 160), 14, "rest")):
            reader, nodes = self.reader()
            stream = (161, 2, 195, BOOK, 167, 1, 163, 186, 175, 195, ROW, 163, 183, *end)
            error = caught(Refused, reader.read, stream)
            self.assertEqual((error.offset, error.reason), (offset, reason))
            self.assert_drafts_know(reader, nodes)

    def test_what_was_there_before_stays_in_its_order(self):
        reader, (row, book, bag, thing, _) = self.reader()
        for name in ("append-all", "enter-all", "add-all", "build"):
            self.outcome(reader, 4, *CHANGES[name], "stop")
        refused = (got(ROW), TWO, "append", "drop", got(BOOK), ONE, TWO, "enter", "drop", got(BAG), "mark", TWO,
                   ("text-line", "m"), "add-all", "drop", got(BUILT), "book", "build")
        self.assertEqual(self.outcome(reader, 4, *refused), ("end", None))
        self.assertEqual((row.parts, book.pairs), ((1, None, 1), ((2, None), ("n", row))))
        self.assertEqual((bag.members, thing.fields), ((1, "n"), (("n", 1),)))
        self.assertEqual(self.outcome(reader, 4, *refused, "stop"), (None, thing))
        self.assertEqual((row.parts, book.pairs), ((1, None, 1, 2), ((2, None), ("n", row), (1, 2))))
        self.assertEqual((bag.members, thing.fields), ((1, 2, "m", "n"), (("n", 1),)))

    def test_a_key_twice_in_one_refused_stream(self):
        reader, nodes = self.reader()
        self.assertEqual(self.outcome(reader, 1, *CHANGES["enter"], ONE, "none", "enter"), ("key", None))
        self.assertEqual(self.outcome(reader, 2, got(BOOK), "mark", ONE, ONE, ONE, ONE, "enter-all"), ("key", None))
        self.assertEqual(self.outcome(reader, 4, got(BAG), "mark", ONE, ONE, "add-all"), ("key", None))
        self.assert_drafts_know(reader, nodes)

    def test_a_thing_keeps_what_it_was_built_with(self):
        memo, registry = {}, Registry("t")
        DryRun(stream_of_words(1, *THING, put(0), "book", "build", "stop"), registry, False, memo).finish()
        buildings = [(None, ())]
        self.assertEqual(memo[0].buildings, buildings)
        crew = NotingCrew()
        DryRun(stream_of_words(1, got(0), "book", N, ONE, "enter", "build", "book", "build", "stop"),
               registry, False, memo, crew).finish()
        self.assertEqual(memo[0].buildings, [*buildings, (None, (("n", 1),)), *buildings])
        crew.take_back()
        self.assertEqual(memo[0].buildings, buildings)

    def test_behind_clear_memo(self):
        reader, nodes = self.reader()
        self.assertEqual(self.outcome(reader, 1, *CHANGES["enter"]), ("end", None))
        reader.clear_memo()
        self.assertEqual(self.outcome(reader, 1, *CHANGES["enter"]), ("memo", None))
        self.assertEqual(nodes[BOOK].pairs, ())


class HookErrorTests(ReaderErrorTests):
    def test_opcodes_behind_the_error_have_done_nothing(self):
        for words in CHANGES.values():
            reader, nodes = self.reader()
            for _ in range(2):
                stream = stream_of_words(4, *FAILING, "drop", *words, "stop")
                self.assertEqual(caught(InvalidMade, reader.read, stream).given, "failing")
                self.assert_drafts_know(reader, nodes)
            self.assertEqual([list(node.children()) for node in nodes[:4]], [[]] * 4)
            self.assertEqual(self.outcome(reader, 4, *words, "stop")[0], None)
            self.assert_drafts_know(reader, nodes)

    def test_opcodes_ahead_of_the_error_have_been_run(self):
        reader, nodes = self.reader()
        changes = [word for words in CHANGES.values() for word in (*words, "drop")]
        behind = (*CHANGES["append"], "drop", *CHANGES["build"], "stop")
        caught(InvalidMade, reader.read, stream_of_words(4, *changes, *FAILING, "drop", *behind))
        self.assertEqual([len(list(node.children())) for node in nodes], [4, 6, 2, 2, 1])
        self.assertEqual(reader.memo_size, 6)

    def test_one_node_ahead_of_the_error_and_another_one_behind_it(self):
        reader, nodes = self.reader()
        words = (*CHANGES["enter"], "drop", *FAILING, "drop", *CHANGES["add-all"], "drop", *CHANGES["append"], "stop")
        caught(InvalidMade, reader.read, stream_of_words(4, *words))
        self.assertEqual((nodes[ROW].parts, nodes[BOOK].pairs, nodes[BAG].members), ((), ((1, None),), ()))
        self.assertEqual(self.outcome(reader, 4, *CHANGES["add-all"], "stop"), (None, nodes[BAG]))
        bag = self.outcome(reader, 1, *BAG_OF, got(ROW), "pack", "make", "stop")[1]
        self.assertEqual(bag.members, ())

    def test_an_error_of_a_build_hook(self):
        registry, calls = Registry(), []

        def failing(thing, state):
            calls.append(state)
            raise ZeroDivisionError

        registry.enter("t", Fields("t"), never_called, build=failing)
        reader = Reader(registry)
        book = reader.read(stream_of_words(1, "book", put(0), "stop"))
        thing = reader.read(stream_of_words(1, *THING, put(1), "stop"))
        stream = stream_of_words(1, got(1), ONE, "build", "drop", got(0), ONE, TWO, "enter", "stop")
        for many in (1, 2):
            with self.assertRaises(ZeroDivisionError):
                reader.read(stream)
            self.assertEqual((calls, book.pairs, reader.memo_size), ([1] * many, (), 2))
        self.assertEqual(reader.read(stream_of_words(1, got(0), ONE, TWO, "enter", "stop")), book)
        self.assertEqual((book.pairs, reader.read(stream_of_words(1, got(1), "stop"))), (((1, 2),), thing))


class RandomTests(ReaderErrorTests):
    def random_key(self, chance):
        """Return the row of a key."""
        return key_word(chance.choice(KEYS))

    def random_change(self, chance):
        """Return the rows of a change, which perhaps cannot be made."""
        def keys():
            return [self.random_key(chance) for _ in range(chance.randrange(3))]

        rows = (
            lambda: (got(ROW), self.random_key(chance), "append"),
            lambda: (got(ROW), "mark", *keys(), *chance.choice(((), ("none",))), "append-all"),
            lambda: (got(BOOK), self.random_key(chance), got(ROW), "enter"),
            lambda: (got(BOOK), "mark", *(word for key in keys() for word in (key, "none")), "enter-all"),
            lambda: (got(BAG), "mark", *keys(), "add-all"),
            lambda: (got(BUILT), "book", self.random_key(chance), ONE, "enter", "build"),
            lambda: FAILING if chance.randrange(4) == 0 else ("none",),
        )
        return chance.choice(rows)()

    def test_random_streams(self):
        chance = random.Random(16)
        ended = {"right": 0, "refused": 0, "failed": 0}
        for _ in range(60):
            reader, nodes = self.reader()
            for _ in range(12):
                changes = [word for _ in range(chance.randrange(1, 4))
                           for word in (*self.random_change(chance), "drop")]
                end = chance.choice((("none", "stop"), ("none", "stop"), ("none",), ("drop",)))
                before = [list(node.children()) for node in nodes]
                try:
                    reader.read(stream_of_words(4, *changes, *end))
                    ended["right"] += 1
                except Refused:
                    ended["refused"] += 1
                    self.assertEqual([list(node.children()) for node in nodes], before)
                except InvalidMade:
                    ended["failed"] += 1
                self.assert_drafts_know(reader, nodes)
                self.assertEqual(reader.memo_size, 6)
        self.assertGreater(min(ended.values()), 10, ended)


if __name__ == "__main__":
    unittest.main()
