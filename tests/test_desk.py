"""Point 27: commands and answers of a desk."""

import inspect
import unittest

from brinejar.desk import Desk
from brinejar.dumping import dump
from brinejar.graphs import same_graph
from brinejar.jars import Jar
from brinejar.nodes import Pack, Row, Thing
from brinejar.notation import graph_text
from brinejar.registry import Registry
from tests.helpers import NEVER_VALUES, Stranger
from tests.test_dump_errors import nested
from tests.test_graphs import samples
from tests.test_jars import LETTERS, state_of

DEEP = "[" * 50 + "1" + "]" * 50
LONG = "[" + ", ".join('"' + str(number) + "a" * 1997 + '"' for number in range(100, 126)) + "]"


class DeskTests(unittest.TestCase):
    def assert_answers(self, desk, *rows):
        """Check the answers to commands one after another; each one is a string."""
        for command, answer in rows:
            self.assertEqual((command, desk.execute(command)), (command, answer))

    def assert_fails(self, desk, *rows):
        """Check the answers to commands that change nothing."""
        for command, answer in rows:
            before = (state_of(desk.jar_twin()), desk.execute("total"))
            self.assert_answers(desk, (command, answer))
            self.assertEqual((state_of(desk.jar_twin()), desk.execute("total")), before)

    def desk_with(self, *commands):
        """Return a desk after these commands, which are done."""
        desk = Desk()
        self.assert_answers(desk, *[(command, "done") for command in commands])
        return desk

    def full_desk(self):
        """Return a desk whose jar is full."""
        return self.desk_with(*[f"put {LETTERS[number // 26]}{LETTERS[number % 26]} 1" for number in range(50)])


class CommandTests(DeskTests):
    def test_example(self):
        desk = Desk()
        self.assertEqual((desk.execute("put a #0=[#0, 1]"), desk.execute("convert 2"), desk.execute("hex a")),
                         ("done", "done", "a102b6bf00aec300a701b8a0"))

    def test_an_empty_desk(self):
        desk = Desk()
        self.assert_answers(desk, ("names", "none"), ("total", "0"), ("undo", "nothing to undo"))
        self.assertEqual(state_of(desk.jar_twin()), ((), (), 4, 0, 0))

    def test_put_and_show(self):
        desk = self.desk_with("allow t", "allow shop.item", "put a 5", "put a [1, (2,), <00ff>]", 'put b "a b"',
                              'put c shop.item{"n": t{}, "m": #0={1: #0}}', "put d None")
        self.assert_answers(desk, ("show a", "[1, (2,), <00ff>]"), ("show b", '"a b"'), ("show d", "None"),
                            ("show c", 'shop.item{"n": t{}, "m": #0={1: #0}}'))

    def test_numbers_that_do_not_occur_again_are_not_shown(self):
        desk = self.desk_with("put a #0=[#1=(), #2={}, #1]")
        self.assert_answers(desk, ("show a", "[#0=(), {}, #0]"))

    def test_all_samples(self):
        desk = self.desk_with("allow t", "allow u", "allow a", "allow b")
        registry = Registry("t", "u", "a", "b")
        for value in samples():
            text = graph_text(value)
            self.assert_answers(desk, (f"put x {text}", "done"), ("show x", text),
                                ("hex x", bytes(dump(value, registry)).hex()))

    def test_drop_and_names_and_total(self):
        desk = self.desk_with("put b None", "put a []", "put none 1")
        size = len(dump(None)) + len(dump(Row())) + len(dump(1))
        self.assert_answers(desk, ("names", "a b none"), ("total", str(size)), ("drop none", "done"), ("names",
                                                                                                       "a b"),
                            ("drop b", "done"), ("names", "a"), ("total", str(len(dump(Row())))), ("drop a", "done"),
                            ("names", "none"), ("total", "0"))

    def test_convert(self):
        desk = self.desk_with("put a []")
        for version, text in (("1", "b6a0"), ("2", "a102b6a0"), ("3", "a103b6a0"), ("4", "a104a202000000b6a0")):
            self.assert_answers(desk, (f"convert {version}", "done"), ("hex a", text), ("total", str(len(text) // 2)))
        self.assert_answers(desk, ("convert 1", "done"), ("put b None", "done"), ("hex b", "a3a0"))

    def test_undo(self):
        desk = self.desk_with("put a 1", "convert 1", "put a 2", "drop a", "undo")
        self.assert_answers(desk, ("show a", "2"), ("undo", "done"), ("show a", "1"), ("hex a", "a6310aa0"), ("undo",
                                                                                                              "done"),
                            ("hex a", bytes(dump(1)).hex()), ("undo", "done"), ("names", "none"),
                            ("undo", "nothing to undo"))

    def test_undo_takes_back_what_undo_of_the_jar_takes_back(self):
        desk = self.desk_with("put a 1", "allow t")
        self.assert_answers(desk, ("undo", "done"), ("names", "none"), ("allow t", "brand taken"), ("put a t{}",
                                                                                                    "done"))

    def test_same(self):
        desk = self.desk_with("put a [[], []]", "put b [[], []]", "put c [#0=[], #0]", "put d 1", "put e True")
        self.assert_answers(desk, ("same a b", "yes"), ("same a a", "yes"), ("same a c", "no"), ("same c a", "no"),
                            ("same d e", "no"), ("same d d", "yes"))

    def test_check(self):
        desk = self.desk_with("allow t")
        self.assert_answers(desk, ("check a3a0", "right"), ("check ", "0 end"), ("check a3", "1 end"),
                            ("check a3a3a0", "2 stack"), ("check a3a000", "2 rest"), ("check a102b6b7", "3 stack"),
                            ("check c5740aaeb1c7a0", "right"), ("check c5750aaeb1c7a0", "0 class"),
                            ("check c9780aa0", "0 outer"), ("check a104a3a0", "2 frame"), ("check 00", "0 opcode"),
                            ("check a60aa0", "0 argument"), ("check a3a0a0", "2 rest"), ("check c2300a", "0 memo"),
                            ("check a3be300a", "1 kind"), ("check " + "a3af" * 24999 + "a3a0", "right"))
        self.assertEqual(state_of(desk.jar_twin())[4], 0)

    def test_load(self):
        desk = self.desk_with("allow t", "convert 1", "load a a102b6a707b7a0", "load b c5740aaeb1c7a0",
                              "load c b6be300aa0")
        self.assert_answers(desk, ("show a", "[7]"), ("hex a", "b6a6370ab7a0"), ("show b", "t{}"), ("hex c", "b6a0"),
                            ("load a a3a0", "done"), ("show a", "None"), ("names", "a b c"))

    def test_jar_twin(self):
        desk = self.desk_with("put a 1", "convert 2", "allow t")
        twin = desk.jar_twin()
        self.assertIs(type(twin), Jar)
        self.assertEqual((twin.names, twin.version, twin.changes, twin.take("a")), (("a",), 2, 2, 1))
        twin.put("b", Thing("t"))
        twin.drop("a")
        self.assert_answers(desk, ("names", "a"), ("put c 1", "done"), ("undo", "done"), ("undo", "done"))
        self.assertEqual((twin.names, twin.changes), (("b",), 4))
        self.assertIsNot(desk.jar_twin(), desk.jar_twin())
        desk.execute("allow u")
        twin.put("c", Thing("u"))

    def test_two_desks(self):
        one, two = self.desk_with("allow t", "put a t{}"), Desk()
        self.assert_answers(two, ("names", "none"), ("put a t{}", "unknown brand"), ("allow t", "done"))
        self.assert_answers(one, ("names", "a"))


class ExecuteAllTests(DeskTests):
    def test_answers_in_order(self):
        desk = Desk()
        answers = desk.execute_all("put a 1", "nonsense", "show a", "drop b", "names")
        self.assertTrue(inspect.isgenerator(answers))
        self.assertEqual(list(answers), ["done", "bad command", "1", "no name", "a"])
        self.assertEqual(list(desk.execute_all()), [])
        self.assertEqual(list(desk.execute_all(None, "total")), ["bad command", desk.execute("total")])

    def test_each_command_is_executed_when_its_answer_is_requested(self):
        desk = Desk()
        answers = desk.execute_all("put a 1", "put b 1", "undo")
        self.assertEqual(desk.execute("names"), "none")
        self.assertEqual(next(answers), "done")
        self.assertEqual(desk.execute("names"), "a")
        self.assertEqual(next(answers), "done")
        self.assertEqual(desk.execute("names"), "a b")
        desk.execute("drop a")
        self.assertEqual(next(answers), "done")
        self.assertEqual(desk.execute("names"), "a b")
        self.assertEqual(list(answers), [])


class BadCommandTests(DeskTests):
    def assert_bad(self, *commands):
        """Check that these are no commands and change nothing, at several desks."""
        for desk in (Desk(), self.desk_with("allow t", "put a 1", "put b []")):
            self.assert_fails(desk, *[(command, "bad command") for command in commands])

    def test_what_is_no_string(self):
        for wrong in (None, True, 0, 1.5, b"names", [], ["names"], ("names",), {}, Row(), Stranger(),
                      *NEVER_VALUES[:-1]):
            for desk in (Desk(), self.desk_with("put a 1")):
                before = state_of(desk.jar_twin())
                self.assertEqual(desk.execute(wrong), "bad command")
                self.assertEqual(state_of(desk.jar_twin()), before)

    def test_other_words(self):
        self.assert_bad("", " ", "  ", "x", "Names", "NAMES", "name", "namess", "shows a", "Put a 1", "none",
                        "take a",
                        "bad command", "done", "\n", "names\n", "\nnames", "names\t", "undo\n", "twin", "put\na 1",
                        "allow\nt", "-", "total.", "quit", "execute names", "convert\n1", "hex\na", "check\n")

    def test_missing_words(self):
        self.assert_bad("allow", "put", "put a", "show", "drop", "convert", "hex", "same", "same a", "check", "load",
                        "load a")

    def test_empty_words(self):
        self.assert_bad("allow ", "put ", "put  ", "put  1", "show ", "drop ", "convert ", "hex ", "same ", "same a ",
                        "same  a", "load ", "load  ", "load  a3a0", " names", "names ", "undo ", "total ", " put a 1",
                        " check a3a0", "same a b ", "show a ", " undo")

    def test_more_than_one_space(self):
        self.assert_bad("allow  t", "show  a", "drop  a", "convert  1", "hex  a", "same  a b", "same a  b",
                        "put  a 1",
                        "load  a a3a0", "names  ", "show a  ")

    def test_needless_words(self):
        self.assert_bad("names a", "total a", "undo a", "undo 1", "show a b", "drop a b", "hex a b", "same a b c",
                        "convert 1 2", "allow t u", "names names")

    def test_a_missing_space_before_the_rest(self):
        self.assert_bad("put a", "load a", "check", "checka3a0", "put a\n1", "load a\na3a0")

    def test_versions(self):
        self.assert_bad("convert 0", "convert 5", "convert 01", "convert 1.0", "convert -1", "convert +1",
                        "convert one",
                        "convert 11", "convert 4\n", "convert \n4", "convert None", "convert 1a")


class FailureTests(DeskTests):
    def test_bad_name(self):
        desk = self.desk_with("put a 1")
        for name in ("A", "a1", "a.b", "-", "a" * 21, "a\n", "aB", "\n", "1", "{}", "a,b"):
            self.assert_fails(desk, (f"put {name} 1", "bad name"), (f"put {name} ", "bad name"),
                              (f"put {name} [", "bad name"), (f"load {name} a3a0", "bad name"),
                              (f"load {name} g", "bad name"), (f"load {name} ", "bad name"))
            # These ask only for names that are there.
            self.assert_fails(desk, (f"show {name}", "no name"), (f"drop {name}", "no name"), (f"hex {name}",
                                                                                               "no name"),
                              (f"same {name} a", "no name"), (f"same a {name}", "no name"))
        self.assert_answers(desk, (f"put {'a' * 20} 1", "done"))

    def test_no_name(self):
        desk = self.desk_with("put a 1", "put b 1", "drop b")
        for name in ("b", "aa", "none"):
            self.assert_fails(desk, (f"show {name}", "no name"), (f"drop {name}", "no name"), (f"hex {name}",
                                                                                               "no name"),
                              (f"same {name} a", "no name"), (f"same a {name}", "no name"),
                              (f"same {name} {name}", "no name"))

    def test_brands(self):
        desk = self.desk_with("allow t", "allow a.b", "allow " + "a" * 40)
        self.assert_fails(desk, ("allow t", "brand taken"), ("allow bag", "bad brand"), ("allow 1", "bad brand"),
                          ("allow a-b", "bad brand"), ("allow .a", "bad brand"), ("allow " + "a" * 41, "bad brand"),
                          ("allow \n", "bad brand"), ("allow t\n", "bad brand"), ("allow a.b", "brand taken"))

    def test_bad_graph(self):
        desk = self.desk_with("put a 1")
        for text, offset in (("", 0), (" ", 0), (" 1", 0), ("1 ", 1), ("[1, 01]", 4), ("Nonesuch", 4), ("[", 1),
                             ("bag", 0),
                             ("[" * 51 + "]" * 51, 50), ("#0=(#0,)", 4), ("1 2", 1), ("\n", 0)):
            self.assert_fails(desk, (f"put a {text}", f"bad graph {offset}"), (f"put b {text}",
                                                                               f"bad graph {offset}"))

    def test_bad_hex(self):
        desk = self.desk_with("put a 1")
        for text, offset in (("g", 0), ("a", 1), ("a3a", 3), (" a3", 0), ("a3 ", 2), ("A3", 0), ("a3 a0", 2),
                             ("a3a0\n", 4),
                             ("0" * 100002, 100000), ("0" * 100001, 100001)):
            self.assert_fails(desk, (f"check {text}", f"bad hex {offset}"), (f"load a {text}", f"bad hex {offset}"),
                              (f"load b {text}", f"bad hex {offset}"))

    def test_refused(self):
        desk = self.desk_with("put a 1")
        for text, answer in (("", "0 end"), ("a3", "1 end"), ("a3a3a0", "2 stack"), ("a3a000", "2 rest"), ("00",
                                                                                                           "0 opcode"),
                             ("c5740aaeb1c7a0", "0 class"), ("c9780aa0", "0 outer"), ("a104a3a0", "2 frame")):
            self.assert_fails(desk, (f"load a {text}", f"refused {answer}"), (f"load b {text}", f"refused {answer}"),
                              (f"check {text}", answer))

    def test_unknown_brand(self):
        desk = self.desk_with("allow t")
        self.assert_fails(desk, ("put a u{}", "unknown brand"), ("put a [t{}, u{}]", "unknown brand"),
                          ('put a t{"n": (u{},)}', "unknown brand"))

    def test_too_deep(self):
        desk = Desk()
        self.assert_fails(desk, (f"put a {DEEP}", "too deep"), ("load a " + "b6" * 60 + "b7" * 59 + "a0", "too deep"),
                          ("load a " + "b6" * 20000 + "b7" * 19999 + "a0", "too deep"))
        self.assert_answers(desk, (f"put a {DEEP.replace('1', '')}", "done"))

    def test_too_deep_to_be_shown(self):
        # The Pack is written a second time within its Row, and there the node behind it at once;
        # in the graph text this node stands within the deep Rows, which come first.
        core, row = nested(25, Row()), Row()
        pack = Pack(row, core)
        row.put_last(pack)
        row.put_last(nested(30, core))
        desk = self.desk_with("load a " + bytes(dump(pack)).hex())
        self.assert_fails(desk, ("show a", "too deep"))
        self.assertTrue(same_graph(desk.jar_twin().take("a"), pack))

    def test_too_long(self):
        desk = self.desk_with("put a " + LONG.replace('"125', '"').replace("a" * 1997, "a" * 1900))
        self.assert_fails(desk, (f"put b {LONG}", "too long"), (f"put a {LONG}", "too long"))
        desk = self.desk_with("put b 1", "convert 2", "load a a102b6ae" + "a7ff" * 24000 + "b8a0")
        self.assert_fails(desk, ("convert 1", "too long"), ("convert 4", "too long"))
        self.assert_answers(desk, ("convert 3", "done"))

    def test_full(self):
        desk = self.full_desk()
        self.assert_fails(desk, ("put zz 1", "full"), ("load zz a3a0", "full"))
        self.assert_answers(desk, ("put aa 2", "done"), ("load ab a3a0", "done"), ("drop ac", "done"), ("put zz 1",
                                                                                                        "done"))

    def test_nothing_to_undo(self):
        desk = self.desk_with("put a 1", "undo")
        self.assert_fails(desk, ("undo", "nothing to undo"), ("undo", "nothing to undo"))

    def test_the_order_two_at_a_time(self):
        desk = self.full_desk()
        self.assert_fails(desk, ("put ZZ [", "bad name"), ("put ZZ u{}", "bad name"), (f"put ZZ {DEEP}", "bad name"),
                          (f"put ZZ {LONG}", "bad name"), ("put ZZ 1", "bad name"), ("load ZZ g", "bad name"),
                          ("load ZZ a3", "bad name"), ("put zz [u{}", "bad graph 4"), ("put zz [", "bad graph 1"),
                          (f"put zz {DEEP}x", "bad graph 101"), (f"put zz {LONG}]", f"bad graph {len(LONG)}"),
                          ("load zz g", "bad hex 0"), ("load zz a3", "refused 1 end"), ("load zz a3 ", "bad hex 2"),
                          ("load zz " + "b6" * 60 + "b7" * 59, "refused 119 end"),
                          ("put zz u{}", "unknown brand"), (f"put zz (u{{}}, {DEEP})", "bad graph 55"),
                          (f"put zz (u{{}}, {DEEP[1:-1]})", "unknown brand"), (f"put zz ({DEEP[1:-1]}, u{{}})",
                                                                               "too deep"),
                          (f"put zz ({LONG}, u{{}})", "unknown brand"), (f"put zz ({LONG}, {DEEP[1:-1]})",
                                                                         "too deep"),
                          (f"put zz {DEEP}", "too deep"), (f"put zz {LONG}", "too long"), ("put zz 1", "full"),
                          ("same ZZ zz", "no name"), ("same aa zz", "no name"), ("same zz aa", "no name"),
                          ("convert 5", "bad command"), ("put ZZ", "bad command"), ("allow  bag", "bad command"))


class InterfaceTests(unittest.TestCase):
    def test_as_it_is_written(self):
        self.assertEqual(Desk.__module__, "brinejar.desk")
        self.assertEqual(str(inspect.signature(Desk)), "()")
        self.assertEqual(str(inspect.signature(Desk.execute)), "(self, command)")
        self.assertEqual(str(inspect.signature(Desk.execute_all)), "(self, *commands)")
        self.assertEqual(str(inspect.signature(Desk.jar_twin)), "(self)")
        for name in ("execute", "execute_all", "jar_twin"):
            self.assertIn(name, vars(Desk))

    def test_answers_are_strings(self):
        desk = Desk()
        for command in ("put a []", "show a", "names", "total", "check a3a0", "x", "hex a", "same a a", "undo"):
            self.assertIs(type(desk.execute(command)), str)
        self.assertEqual(desk.execute(command="total"), "0")


if __name__ == "__main__":
    unittest.main()
