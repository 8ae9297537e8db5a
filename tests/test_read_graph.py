"""Point 26: read_graph and the offsets of wrong texts."""

import inspect
import random
import unittest

from brinejar.errors import InvalidText
from brinejar.graphs import nodes_of, same_graph
from brinejar.nodes import Bag, Book, Octets, Pack, Row, Thing
from brinejar.notation import graph_text, read_graph
from tests.graphtexts import wrong_offset
from tests.helpers import Stranger, caught
from tests.test_graphs import samples
from tests.test_makers import thing_with
from tests.test_round_trips import random_graph

PIECES = ("#0", "#1", "#0=", "#1=", "#2=", "(", ")", ",)", ", ", ": ", "[", "]", "{", "}", "bag{", "t{", "None",
          "True",
          '"a"', '"', "1", "-1", "0", "-", "<00>", "<", ">", " ", ",", "\\", "\n", "x", ".", "=", "")


def offset_of(text):
    """Return the offset at which a text is wrong, or None."""
    try:
        read_graph(text)
    except InvalidText as error:
        return error.offset
    return None


class ReadGraphTests(unittest.TestCase):
    def assert_reads(self, text, expected):
        """Check the value of a text."""
        result = read_graph(text)
        self.assertTrue(same_graph(result, expected), text)
        self.assertIs(type(result), type(expected))
        for node in nodes_of(result):
            self.assertIn(type(node), (Octets, Pack, Row, Book, Bag, Thing))

    def assert_wrong(self, *cases):
        """Check the offsets of wrong texts."""
        for text, offset in cases:
            error = caught(InvalidText, read_graph, text)
            self.assertEqual((text, error.offset), (text, offset))
            self.assertIs(type(error.offset), int)

    def assert_wrong_at(self, *texts):
        """Check that each text is wrong at its sign `@`, which is left out."""
        for text in texts:
            self.assert_wrong((text.replace("@", ""), text.index("@")))


class RightTests(ReadGraphTests):
    def test_every_kind(self):
        for text, value in (("None", None), ("True", True), ("False", False), ("0", 0), ("-10", -10), ('""', ""),
                            (r'"\"\\\n\\n"', '"\\\n\\n'), ("<>", Octets()), ("<00ff>", Octets((0, 255))),
                            ("()", Pack()), ("(1,)", Pack(1)), ("(1, 2)", Pack(1, 2)), ("[]", Row()), ("[1]", Row(1)),
                            ("[1, 2, 3]", Row(1, 2, 3)), ("{}", Book()), ('{1: 2, "a": 3}', Book.of(((1, 2), ("a",
                                                                                                              3)))),
                            ("bag{}", Bag()), ('bag{-1, 0, 5, "", "B", "a"}', Bag(-1, 0, 5, "", "B", "a")),
                            ("t{}", Thing("t")), ('shop.item{"n": 3}', thing_with("shop.item", ("n", 3))),
                            ("None{}", Thing("None")), ("Nonesuch{}", Thing("Nonesuch")), ("bags{}", Thing("bags")),
                            ("9" * 300, 10 ** 300 - 1), ("-" + "9" * 300, 1 - 10 ** 300),
                            ('"' + "\\n" * 2000 + '"', "\n" * 2000), ("<" + "0a" * 2000 + ">", Octets((10,) * 2000))):
            self.assert_reads(text, value)

    def test_a_new_value_each_time(self):
        for text in ("()", "[]", "<>", "{}", "bag{}", "t{}"):
            self.assertNotEqual(read_graph(text), read_graph(text))

    def test_numbers(self):
        shared = Row(1)
        self.assert_reads("[#0=[1], #0]", Row(shared, shared))
        self.assert_reads("[#0=[1], [1]]", Row(Row(1), Row(1)))
        own = Row()
        own.put_last(own)
        self.assert_reads("#0=[#0]", own)
        octets, bag = Octets((1,)), Bag(1)
        self.assert_reads("(#0=<01>, #1=bag{1}, #1, #0)", Pack(octets, bag, bag, octets))
        thing = Thing("t")
        thing.set_field("self", Pack(thing))
        self.assert_reads('#0=t{"self": (#0,)}', thing)
        book = Book()
        book.enter(1, book)
        self.assert_reads("#0={1: #0}", book)
        rows = [Row() for _ in range(11)]
        self.assert_reads("[" + ", ".join(f"#{n}=[]" for n in range(11)) + ", #10, #9]", Row(*rows, rows[10],
                                                                                             rows[9]))

    def test_a_numbered_node_that_does_not_occur_again(self):
        self.assert_reads("#0=[]", Row())
        self.assert_reads("#0=(#1=<>, #2=[#3={}], #4=bag{}, #5=t{})",
                          Pack(Octets(), Row(Book()), Bag(), Thing("t")))
        self.assert_reads("[#0=[], #1=[1], #1]", (lambda one: Row(Row(), one, one))(Row(1)))

    def test_packs_that_contain_themselves(self):
        row = Row()
        pack = Pack(row, 1)
        row.put_last(pack)
        self.assert_reads("#0=([#0], 1)", pack)
        self.assert_reads("#0=[(#0, 1)]", row)
        row, one = Row(), Row()
        inner = Pack(row)
        row.put_last(inner)
        one.put_last(Pack(inner, one))
        self.assert_reads("#0=[(#1=([#1],), #0)]", one)
        result = read_graph("#0=([#1=(#0,)], {1: #1})")
        self.assertEqual(result.parts[0].parts[0].parts[0], result)
        self.assertEqual(result.parts[1].value_of(1), result.parts[0].parts[0])

    def test_packs_within_packs(self):
        two = Pack(2)
        self.assert_reads("(#0=(2,), #0, (#0, #0))", Pack(two, two, Pack(two, two)))
        self.assert_reads("(((1,), #0=(2,)), #0)", (lambda inner: Pack(Pack(Pack(1), inner), inner))(Pack(2)))

    def test_texts_of_graphs(self):
        for value in samples():
            self.assert_reads(graph_text(value), value)


class ParameterTests(ReadGraphTests):
    def test_what_is_no_string(self):
        for wrong in (None, True, 0, 1.5, b"[]", [], (), ("[]",), ["["], {}, Row(), Stranger()):
            self.assertIsNone(caught(InvalidText, read_graph, wrong).offset)

    def test_as_it_is_written(self):
        self.assertEqual(read_graph.__module__, "brinejar.notation")
        self.assertEqual(str(inspect.signature(read_graph)), "(text)")
        self.assertEqual(read_graph(text="5"), 5)


class WrongTests(ReadGraphTests):
    def test_example(self):
        self.assert_wrong(("[1, 01]", 4))

    def test_a_text_that_ends_too_early(self):
        for text in ("", "(", "[", "{", "bag{", "t{", "(1", "(1, ", "(1, 2", "[1", "[1, ", "{1", "{1: ", "{1: 2",
                     "{1: 2, ", 'bag{1', 'bag{1, ', 't{"n"', 't{"n": ', 't{"n": 1', "#0=", "[#0=", "([[", "[()",
                     "[<>"):
            self.assert_wrong((text, len(text)))

    def test_what_is_no_token(self):
        self.assert_wrong_at("@ ", "@ 1", "@a", "@none", "@Non", "@bag", "@t", "@shop.item", "@.", "@_", "@_a{}",
                             "@.a{}",
                             "@\n", "@!", "@=", "@~", "@,", "@:", "@;", "@'a'", "@\\", "@-", "@- 1", "@--1", "@+1",
                             "@#",
                             "@#=", "@# 0", "@#a", "@#-1", "@#-0=[]", "@bag {}", "@t {}", "@>", "[@ 1]", "[1@ ]",
                             "[1@,2]",
                             "[1@,]", "[1@,", "(1@,", "(1@,2)", "{1@:2}", "{1@:", "{1@ : 2}", "{1@ 2}", "[1@ , 2]",
                             "[@ ]",
                             "1@.5", "1@e5", "1@_000", "[1@;", "bag{1@,}", "t{@n: 1}", "1@\n", "[1]@\n")

    def test_names_are_as_long_as_possible(self):
        self.assert_wrong_at("None@such", "None@1", "True@r", "False@_", "None@ ", "None@.x", "[None@x]",
                             "@" + "a" * 41 + "{}", "None@" + "a" * 37 + "{}", "None@None", "@t-u{}", "@t u{}",
                             "9@t{}", "@bag", "@bags", "None@ {}")
        self.assertEqual(read_graph("a" * 40 + "{}").brand, "a" * 40)

    def test_a_token_that_cannot_stand_there(self):
        self.assert_wrong_at("@)", "@]", "@}", "@,)", "@, ", "@: ", "1@None", "1@, ", "1@)", "[]@[]", "()@()",
                             "1@ ", "[@)", "[@}", "[@,)", "[@, 1]", "(@]", "(@,)", "(@, 1)", "{@]", "{@, ", "bag{@]",
                             "t{@)", "[1@)", "[1@}", "[1@,)", "[1@: 2]", "(1@]", "(1@)", "(1@}", "(1, 2@,)",
                             "(1, 2@]",
                             "(1, @)", "[1, @]", "{1: 2, @}", "bag{1, @}", "[1, @, 2]", "{1@, 2}", "{1@}",
                             "{1: 2@: 3}",
                             "{1: @}", "{1: 2@]", "bag{1@: 2}", "bag{1@]", 't{"n"@, 1}', 't{"n": 1@)', "[1@[]]",
                             "[1@\"a\"]",
                             "[1@#0=[]]", "[#0=[], 1@#0]", "<>@<>", '"a"@"b"', "{@{}", "[1]@]")

    def test_keys_and_labels(self):
        for key in ("None", "True", "<>", "()", "[", "{", "bag{", "t{", "#0=[]", ": "):
            self.assert_wrong_at("{@" + key + ": 1}", "bag{@" + key + "}", "t{@" + key + ": 1}",
                                 "{1: 2, @" + key + ": 1}")
        self.assert_wrong_at("t{@1: 2}", "[#0=[], {@#0: 1}]", "[#0=[], bag{@#0}]", 't{"n": 1, @2: 3}')

    def test_a_text_or_octets_without_an_end(self):
        self.assert_wrong_at('@"', '@"a', '@"a\\', '@"a\\"', '[@"]', '["a", @"b]', '{1: @"', '@"a\\\\\\"', "@<",
                             "@<0", "@<00",
                             "@<00 >", "[@<]", "[<>, @<00]", '{@"a: 1}')

    def test_wrong_signs_in_a_text_or_octets(self):
        self.assert_wrong_at('@"\\a"', '@"\\t"', '@"\\N"', '@"\\ "', "@\"\\'\"", '@"a\nb"', '@"\n"', '["", @"\\x"]',
                             "@<0>",
                             "@<000>", "@<0g>", "@<AB>", "@<0A>", "@<0 0>", "@<-1>", "@<\n>", "@<00,00>")

    def test_an_integer_that_is_out_of_range(self):
        self.assert_wrong_at("@1" + "0" * 300, "@-1" + "0" * 300, "@" + "9" * 301, "[1, @" + "9" * 5000 + "]",
                             "{@1" + "0" * 300 + ": 1}", "bag{@-1" + "0" * 300 + "}")

    def test_needless_zeros(self):
        self.assert_wrong_at("@00", "@01", "@-0", "@-01", "@-00", "@000", "[@007]", "{@01: 1}", "bag{@-0}", "@#00=[]",
                             "@#01", "[#0=[], @#00]", "[#0=[], @#01=[]]", "[#0=[], @#00=[]]", "@" + "0" * 5000,
                             "@#" + "0" * 5000)

    def test_a_text_that_is_too_long(self):
        self.assert_wrong_at('@"' + "a" * 2001 + '"', '@"' + "\\n" * 2001 + '"', "[1, @\"" + "a" * 3000 + '"]',
                             '{@"' + "a" * 2001 + '": 1}', 't{@"' + "a" * 2001 + '": 1}',
                             'bag{@"' + "a" * 2001 + '"}')

    def test_octets_that_are_too_long(self):
        self.assert_wrong_at("@<" + "00" * 2001 + ">", "[@<" + "ff" * 3000 + ">]")

    def test_a_number_that_is_not_the_next_one(self):
        self.assert_wrong_at("@#1=[]", "[#0=[], @#2=[]]", "[#0=[], @#0=[]]", "[#0=[#1=[]], @#1=[]]",
                             "[#0=[], #1=[], @#3=[]]",
                             "[@#1=[], #0=[]]", "@#" + "9" * 5000 + "=[]", "[#0=[], @#10=[]]")

    def test_no_node_behind_a_number(self):
        self.assert_wrong_at("#0=@1", "#0=@None", '#0=@"a"', "#0=@#0", "#0=@#1=[]", "#0=@]", "#0=@, ", "#0=@ []",
                             "#0=@-",
                             "[#0=@]", "[#0=[], #1=@#0]", "#0=@=[]", "#0=@\"", "#0=@<", "#0=@bag")

    def test_a_number_that_is_not_given(self):
        self.assert_wrong_at("@#0", "[@#0]", "[@#0, #0=[]]", "[#0=[], @#1]", "#0=[@#1]", "[#0=[], @#10]",
                             "[#0=[], @#" + "9" * 5000 + "]", "{1: @#0}", "(@#0,)")

    def test_a_pack_that_would_contain_itself_by_way_of_packs(self):
        self.assert_wrong_at("#0=(@#0,)", "#0=(1, @#0)", "#0=((@#0,),)", "#0=(1, (2, (3, @#0)))",
                             "#0=(#1=(@#1,), #0)",
                             "#0=(#1=((@#0,),), 1)", "[#0=(@#0,)]", "#0=([#0], @#0)", "#0=([#1=(#0,)], @#1)",
                             "#0=([#1=((#0,),)], (@#1, 2))", "#0=({1: #1=(#0, 2)}, 3, ((@#1,),))",
                             "[#0=([#1=(#0,), #2=(#1,)], 1, @#2)]", "#0=[#1=(#0, [#2=(#1,)], @#2)]")
        for text in ("#0=([#0],)", "#0=([(#0,)],)", "#0=[(#0,)]", "#0=([#1=(#0,), (#1,)], [#1])",
                     "[#0=(1,), (#0,), #0]",
                     "(#0=(1,), (#0, #0), #0)", "#0=([#1=(1, [#0])], #1)", "#0=({1: (#0,)},)", '#0=(t{"n": #0},)',
                     "#0=((#1=[#0],), #1)", "#0=([#1=([#0],)], #1)"):
            self.assertIsNone(offset_of(text), text)

    def test_packs_that_contain_one_another_many_times(self):
        doubled = "".join([f", #{n}=(#{n - 1}, #{n - 1})" for n in range(1, 48)])
        self.assertIsNone(offset_of(f"(#0=(){doubled}, #47)"))
        deep = "".join([f"#{n}=([(#{n},)], " for n in range(20)])
        self.assertIsNone(offset_of(deep + "()" + ")" * 20))

    def test_a_key_or_label_that_occurs_before(self):
        self.assert_wrong_at("{1: 2, @1: 2}", '{"a": 2, 1: 1, @"a": 3}', 't{"a": 2, @"a": 2}',
                             '{"\\n": 1, @"\\n": 1}',
                             '{1: {1: 2, @1: 3}}', 't{"a": 1, "b": 2, @"a": 3}', "{1: 1, 2: 2, 3: 3, @2: 2}")
        self.assert_reads('{1: 1, "1": 2, -1: 3}', Book.of(((1, 1), ("1", 2), (-1, 3))))
        self.assert_reads("{1: {1: 2}, 2: {1: 2}}", Book.of(((1, Book.of(((1, 2),))), (2, Book.of(((1, 2),))))))

    def test_a_member_that_does_not_ascend(self):
        self.assert_wrong_at("bag{1, @1}", "bag{2, @1}", 'bag{"a", @"a"}', 'bag{"b", @"a"}', 'bag{"a", @1}',
                             "bag{1, @-1}",
                             'bag{1, 2, "a", @3}', 'bag{"a", @""}', 'bag{"a", @"A"}', 'bag{10, @9}', "bag{-1, @-2}",
                             'bag{"ab", @"a"}')
        self.assert_reads('bag{9, 10, "10", "9"}', Bag(9, 10, "10", "9"))

    def test_50_nodes_may_be_open_at_once(self):
        for opening, closing in (("[", "]"), ("(", ",)"), ("{1: ", "}"), ('t{"n": ', "}")):
            for core in ("[]", "()", "{}", "t{}", "bag{}", "<>", "[1]", "bag{1}", "<00>", "(1, 2)"):
                self.assertIsNone(offset_of(opening * 49 + core + closing * 49))
                self.assert_wrong((opening * 50 + core + closing * 50, len(opening * 50)))
                self.assert_wrong((opening * 50 + "#0=" + core + closing * 50, len(opening * 50) + 3))
            for core in ("1", '"a"', "None"):
                self.assertIsNone(offset_of(opening * 50 + core + closing * 50))
                self.assert_wrong((opening * 51 + core + closing * 51, len(opening * 50)))
        self.assertIsNone(offset_of("#0=" + "[" * 50 + "#0" + "]" * 50))
        self.assertIsNone(offset_of("[" * 49 + ", ".join(["[]"] * 60) + "]" * 49))

    def test_the_first_wrong_token_counts(self):
        self.assert_wrong_at("[@01, 02", "(@#0, 01)", "{1: @}, 1: 1}", "[1, @02], [", "@01 ", '[@01, "',
                             'bag{2, @1, "')


class OracleTests(ReadGraphTests):
    def test_changed_texts(self):
        chance = random.Random(31)
        found = set()
        for _ in range(1500):
            text = graph_text(random_graph(chance, chance.randrange(1, 6)))
            self.assertEqual((offset_of(text), wrong_offset(text)), (None, None))
            for _ in range(4):
                start = chance.randrange(len(text) + 1)
                end = start + chance.choice((0, 0, 1, 2, 3))
                changed = text[:start] + chance.choice(PIECES) + text[end:]
                self.assertEqual((changed, offset_of(changed)), (changed, wrong_offset(changed)))
                found.add(wrong_offset(changed) is None)
        self.assertEqual(found, {True, False})


if __name__ == "__main__":
    unittest.main()
