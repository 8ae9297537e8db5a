"""Points 7 to 10 and 13: described, with its reasons, and assembled."""

import inspect
import unittest

from brinejar import describing
from brinejar.describing import assembled, described
from brinejar.dumping import dump
from brinejar.errors import InvalidRow, InvalidStream, InvalidVersion, Refused, TooLong
from brinejar.nodes import Octets, Pack, Row
from brinejar.opcodes import number_of
from tests.helpers import NEVER_VALUES, caught
from tests.listing import TABLE
from tests.test_dump_errors import NEVER_VERSIONS

NUMBERS = {name: number for number, (name, _, _) in TABLE.items()}
BARE = tuple(name for name, form, _ in TABLE.values() if form == "none")
MOST = 10 ** 300 - 1
NEVER_STREAMS = NEVER_VALUES[2:] + (None, True, False, 0, "", "stop", [163, 160], b"\xa3\xa0", (163, 256), (-1,),
                                    (163, True), (False, 160), (163, None), (163, "160"), ((163, 160),), (163.0,),
                                    (163,) * 50001, Octets((163, 160)), range(3))


def codes(text):
    """Return the octets of the characters."""
    return tuple(text.encode())


def wide(number):
    """Return the four octets of a number."""
    return tuple(number.to_bytes(4, "little"))


# The argument of each opcode that has one, with its octets behind the number.
ARGUMENTS = {
    "integer-line": [(0, codes("0\n")), (7, codes("7\n")), (-7, codes("-7\n")), (10, codes("10\n")),
                     (MOST, codes("9" * 300 + "\n")), (-MOST, codes("-" + "9" * 300 + "\n")),
                     (10 ** 299, codes("1" + "0" * 299 + "\n"))],
    "integer-octet": [(0, (0,)), (10, (10,)), (255, (255,))],
    "integer-counted": [(0, (1, 0)), (127, (1, 127)), (-1, (1, 255)), (-128, (1, 128)), (-129, (2, 127, 255)),
                        (128, (2, 128, 0)), (256, (2, 0, 1)), (-256, (2, 0, 255)), (-32768, (2, 0, 128)),
                        (MOST, (125, *MOST.to_bytes(125, "little"))),
                        (-MOST, (125, *(-MOST).to_bytes(125, "little", signed=True)))],
    "text-line": [("", (10,)), ("a", codes("a\n")), ("\n", codes("\\n\n")), ("\\", codes("\\\\\n")),
                  ("\\n", codes("\\\\n\n")), ("a\n\\~ ", codes("a\\n\\\\~ \n")), ("a" * 2000, codes("a" * 2000 + "\n")),
                  ("\n" * 2000, codes("\\n" * 2000 + "\n"))],
    "text-wide": [("", wide(0)), ("a", wide(1) + (97,)), ("a\n\\", wide(3) + (97, 10, 92)),
                  ("a" * 2000, wide(2000) + codes("a" * 2000))],
    "text-short": [("", (0,)), ("a", (1, 97)), ("a\n\\", (3, 97, 10, 92)), ("a" * 255, (255,) + codes("a" * 255))],
    "octets-line": [((), (10,)), ((0, 171, 255), codes("00abff\n")), ((9,) * 2000, codes("09" * 2000 + "\n"))],
    "octets-wide": [((), wide(0)), ((0, 10, 255), wide(3) + (0, 10, 255)), ((9,) * 2000, wide(2000) + (9,) * 2000)],
    "put-line": [(0, codes("0\n")), (10, codes("10\n")), (9999, codes("9999\n"))],
    "put-octet": [(0, (0,)), (10, (10,)), (255, (255,))],
    "put-wide": [(0, wide(0)), (256, wide(256)), (9999, wide(9999))],
    "get-line": [(0, codes("0\n")), (10, codes("10\n")), (9999, codes("9999\n"))],
    "get-octet": [(0, (0,)), (10, (10,)), (255, (255,))],
    "get-wide": [(0, wide(0)), (256, wide(256)), (9999, wide(9999))],
    "class-line": [("a", codes("a\n")), ("bag", codes("bag\n")), ("Shop.item_9", codes("Shop.item_9\n")),
                   ("a" * 40, codes("a" * 40 + "\n"))],
    "outer-line": [("", (10,)), ("a\n\\", codes("a\\n\\\\\n")), ("a" * 2000, codes("a" * 2000 + "\n"))],
}
# Right octets that assembled does not return.
OTHER_OCTETS = {"integer-counted": [(0, (2, 0, 0)), (7, (3, 7, 0, 0)), (-1, (4, 255, 255, 255, 255)),
                                    (255, (2, 255, 0)), (1, (255, 1) + (0,) * 254), (-2, (255, 254) + (255,) * 254)]}
# Octets of wrong arguments.
WRONG_OCTETS = {
    "integer-line": [codes(text + "\n") for text in (
        "", "-", "-0", "00", "01", "-01", "--1", "+1", " 1", "1 ", "1-", "1a", "a", "1.0", "1_0", "0x1", "\\n",
        "1" + "0" * 300, "-1" + "0" * 300, "0" * 301, "9" * 301, "9" * 5000, "True")] + [(178, 10), (49, 0, 10),
                                                                                        (49, 13, 10), (255, 10)],
    "integer-counted": [(0,), (126, *(10 ** 300).to_bytes(126, "little")),
                        (126, *(-(10 ** 300)).to_bytes(126, "little", signed=True)), (255,) + (255,) * 254 + (127,)],
    "text-line": [codes(text + "\n") for text in ("\\", "\\a", "a\\", "\\\\\\", "\\N", "\\ n", "\\\\\\a", "a" * 2001,
                                                  "\\n" * 2001)] + [(37, 10), (31, 10), (127, 10), (0, 10), (13, 10),
                                                                    (9, 10), (255, 10), (97, 128, 10)],
    "text-wide": [wide(1) + (code,) for code in (0, 9, 11, 13, 31, 37, 127, 128, 255)] + [
        wide(2001) + (97,) * 2001, wide(2) + (97, 37)],
    "text-short": [(1, code) for code in (0, 9, 11, 13, 31, 37, 127, 128, 255)],
    "octets-line": [codes(text + "\n") for text in ("0", "000", "0g", "AB", "aB", " 0", "0 ", "00 00", "0x", "-1",
                                                    "\\n",
                                                    "09" * 2001, "0" * 4001)] + [(48, 37, 10), (48, 178, 10)],
    "octets-wide": [wide(2001) + (9,) * 2001],
    "put-line": [codes(text + "\n") for text in ("", "-0", "-1", "00", "01", "10000", "a", " 1", "9" * 301, "1.0")],
    "put-wide": [wide(10000), wide(65536), wide(2 ** 32 - 1)],
    "class-line": [codes(text + "\n") for text in ("", "1a", ".a", "_a", " a", "a ", "a b", "a-b", "a\\n", "\\\\",
                                                   "a" * 41)] + [(37, 10), (97, 37, 10), (97, 0, 10), (97, 200, 10)],
}
WRONG_OCTETS["outer-line"] = WRONG_OCTETS["text-line"]
WRONG_OCTETS["get-line"] = WRONG_OCTETS["put-line"]
WRONG_OCTETS["get-wide"] = WRONG_OCTETS["put-wide"]


def in_version(version, code, stop=(160,)):
    """Return the stream of one opcode and a stop, in one frame if there are frames."""
    if version == 4:
        return (161, 4, 162, *wide(len(code + stop)), *code, *stop)
    return ((161, version) if version > 1 else ()) + code + stop


def start_in(version):
    """Return the offset of the first opcode behind version and frame."""
    return (0, 2, 2, 7)[version - 1]


def refusal(stream):
    """Return the rows before the error of described, its offset and its reason."""
    rows = []
    try:
        for row in described(stream):
            rows.append(row)
    except Refused as error:
        return rows, error.offset, error.reason
    raise AssertionError("not refused")


def refused_at(stream):
    """Return the offset and the reason with which described refuses the stream."""
    return refusal(stream)[1:]


class DescribedTests(unittest.TestCase):
    def assert_described(self, version, name, argument, octets):
        code = (NUMBERS[name], *octets)
        stream = in_version(version, code)
        start = start_in(version)
        head = [(0, "version", version)] if version > 1 else []
        if version == 4:
            head.append((2, "frame", len(code) + 1))
        rows = list(described(stream))
        self.assertEqual(rows, head + [(start, name, argument), (start + len(code), "stop", None)])
        self.assertIs(type(rows[-2][2]), type(argument))

    def test_every_opcode_of_every_version(self):
        for number, (name, form, since) in TABLE.items():
            if name in ("version", "frame", "stop"):
                continue
            for version in range(since, 5):
                if form == "none":
                    self.assert_described(version, name, None, ())
                    continue
                for argument, octets in ARGUMENTS[name] + OTHER_OCTETS.get(name, []):
                    self.assert_described(version, name, argument, octets)

    def test_all_forms_have_arguments(self):
        names = {name for name, form, _ in TABLE.values() if form != "none"} - {"version", "frame"}
        self.assertEqual(names, set(ARGUMENTS))

    def test_every_character(self):
        signs = "\n" + "".join(chr(code) for code in range(32, 127) if code != 37)
        for version in (3, 4):
            self.assert_described(version, "text-short", signs, (95, *signs.encode()))
        line = signs.replace("\\", "\\\\").replace("\n", "\\n") + "\n"
        for version in range(1, 5):
            self.assert_described(version, "text-line", signs, codes(line))
            self.assert_described(version, "outer-line", signs, codes(line))

    def test_stop_alone(self):
        self.assertEqual(list(described((160,))), [(0, "stop", None)])
        self.assertEqual(list(described((161, 3, 160))), [(0, "version", 3), (2, "stop", None)])
        self.assertEqual(list(described((161, 4, 162, 1, 0, 0, 0, 160))),
                         [(0, "version", 4), (2, "frame", 1), (7, "stop", None)])

    def test_it_looks_for_no_other_reasons(self):
        self.assertEqual(list(described((183, 194, 48, 10, 160))),
                         [(0, "append", None), (1, "get-line", 0), (4, "stop", None)])

    def test_several_frames(self):
        stream = (161, 4, 162, 1, 0, 0, 0, 163, 162, 2, 0, 0, 0, 175, 163, 162, 1, 0, 0, 0, 160)
        self.assertEqual([row[:2] for row in described(stream)],
                         [(0, "version"), (2, "frame"), (7, "none"), (8, "frame"), (13, "drop"), (14, "none"),
                          (15, "frame"), (20, "stop")])

    def test_what_dump_returns(self):
        for version in range(1, 5):
            stream = dump(Row("salt", -1, Octets((1, 2)), Pack(None, True, "salt")), version=version)
            names = [name for _, name, _ in described(stream)]
            self.assertEqual(names[-1], "stop")
            self.assertEqual(names[0], "row" if version == 1 else "version")

    def test_a_generator_that_raises_when_the_first_item_is_requested(self):
        for wrong in NEVER_STREAMS:
            rows = described(wrong)
            self.assertTrue(inspect.isgenerator(rows))
            self.assertIs(caught(InvalidStream, next, rows).value, wrong)

    def test_the_longest_streams(self):
        self.assertEqual(len(list(described((163,) * 49999 + (160,)))), 50000)
        self.assertEqual(refused_at((163,) * 50000), (50000, "end"))


class RefusedTests(unittest.TestCase):
    def test_end(self):
        self.assertEqual(refusal(()), ([], 0, "end"))
        self.assertEqual(refusal((163,)), ([(0, "none", None)], 1, "end"))
        self.assertEqual(refusal((161, 2)), ([(0, "version", 2)], 2, "end"))
        self.assertEqual(refusal((161, 4)), ([(0, "version", 4)], 2, "end"))
        self.assertEqual(refused_at((161, 4, 162, 1, 0, 0, 0)), (7, "end"))
        self.assertEqual(refused_at((161, 4, 162, 1, 0, 0, 0, 163)), (8, "end"))
        self.assertEqual(refused_at((161, 4, 162, 2, 0, 0, 0, 163)), (8, "end"))

    def test_opcode(self):
        for version in range(1, 5):
            start = start_in(version)
            for octet in range(256):
                name, _, since = TABLE.get(octet, ("", "", 9))
                if since > version or name == "version":
                    expected = "argument" if version == 1 and name == "version" else "opcode"
                    if name == "frame" and version == 4:
                        expected = "frame"
                    self.assertEqual(refused_at(in_version(version, (octet, 5, 5, 5, 5, 5))), (start, expected), octet)

    def test_all_numbers_from_0_to_300(self):
        for number in range(301):
            stream = (163, number)
            if number > 255:
                self.assertIs(caught(InvalidStream, lambda: list(described(stream))).value, stream)
                continue
            name, form, since = TABLE.get(number, ("", "", 9))
            if since > 1:
                self.assertEqual(refusal(stream), ([(0, "none", None)], 1, "opcode"))
            elif form == "line":
                self.assertEqual(refusal(stream), ([(0, "none", None)], 1, "end"))
            elif name == "stop":
                self.assertEqual(list(described(stream)), [(0, "none", None), (1, "stop", None)])
            else:
                self.assertEqual(refusal(stream), ([(0, "none", None), (1, name, None)], 2, "end"))

    def test_version_behind_the_start(self):
        self.assertEqual(refused_at((163, 161, 2, 160)), (1, "opcode"))
        self.assertEqual(refused_at((161, 2, 161, 2, 160)), (2, "opcode"))
        self.assertEqual(refused_at((161, 2, 163, 161)), (3, "opcode"))
        self.assertEqual(refused_at(in_version(4, (161, 4))), (7, "opcode"))

    def test_the_argument_of_version(self):
        self.assertEqual(refused_at((161,)), (0, "end"))
        for octet in range(256):
            if octet not in (2, 3, 4):
                self.assertEqual(refused_at((161, octet)), (0, "argument"))
                self.assertEqual(refused_at((161, octet, 160)), (0, "argument"))

    def test_a_missing_octet_of_an_argument(self):
        for name, cases in ARGUMENTS.items():
            for version in range(TABLE[NUMBERS[name]][2], 5):
                start = start_in(version)
                for _, octets in cases:
                    stream = in_version(version, (NUMBERS[name], *octets))
                    for end in range(start + 1, min(start + len(octets) + 1, start + 9)):
                        self.assertEqual(refused_at(stream[:end]), (start, "end"))
                    self.assertEqual(refused_at(stream[:start + len(octets)]), (start, "end"))

    def test_a_missing_octet_at_the_end_of_a_frame(self):
        for name, cases in ARGUMENTS.items():
            for _, octets in cases:
                code = (NUMBERS[name], *octets)
                for count in {1, 2, len(code) // 2, len(code) - 1} - {0}:
                    if count < len(code):
                        stream = (161, 4, 162, *wide(count), *code)
                        self.assertEqual(refused_at(stream[:7 + count]), (7, "frame"))
                        self.assertEqual(refused_at(stream), (7, "frame"))
                        self.assertEqual(refused_at(stream[:7 + count] + (162, 1, 0, 0, 0, 160)), (7, "frame"))
                        longer = (161, 4, 162, *wide(count + 1), *code[:count])
                        self.assertEqual(refused_at(longer), (7, "end"))

    def test_a_length_beyond_the_stream(self):
        for name in ("text-wide", "octets-wide"):
            for length in (3, 2001, 50000, 2 ** 32 - 1):
                code = (NUMBERS[name], *wide(length), 97, 97)
                self.assertEqual(refused_at((161, 3, *code)), (2, "end"))
                self.assertEqual(refused_at((161, 4, 162, *wide(7), *code)), (7, "frame"))
                self.assertEqual(refused_at((161, 4, 162, *wide(8), *code)), (7, "end"))

    def test_wrong_arguments(self):
        for name, cases in WRONG_OCTETS.items():
            for version in range(TABLE[NUMBERS[name]][2], 5):
                for octets in cases:
                    stream = in_version(version, (NUMBERS[name], *octets))
                    self.assertEqual(refused_at(stream), (start_in(version), "argument"), (name, octets[:20]))
                    self.assertEqual(refused_at(stream[:-1]), (start_in(version), "argument"), (name, octets[:20]))

    def test_wrong_octets_are_wrong_only_with_all_of_them(self):
        self.assertEqual(refused_at((166, 97)), (0, "end"))
        self.assertEqual(refused_at((166, 97, 10)), (0, "argument"))
        self.assertEqual(refused_at((161, 3, 171, 2, 37)), (2, "end"))
        self.assertEqual(refused_at((161, 3, 171, 2, 37, 97)), (2, "argument"))

    def test_places_of_frames(self):
        self.assertEqual(refusal((161, 4, 163)), ([(0, "version", 4)], 2, "frame"))
        self.assertEqual(refused_at((161, 4, 5)), (2, "frame"))
        self.assertEqual(refused_at((161, 4, 161)), (2, "frame"))
        self.assertEqual(refused_at((161, 4, 162, 1, 0, 0, 0, 163, 160)), (8, "frame"))
        self.assertEqual(refused_at((161, 4, 162, 1, 0, 0, 0, 163, 0)), (8, "frame"))
        self.assertEqual(refused_at((161, 4, 162, 7, 0, 0, 0, 163, 162, 1, 0, 0, 0, 160)), (8, "frame"))
        self.assertEqual(refused_at((161, 4, 162, 5, 0, 0, 0, 162)), (7, "frame"))

    def test_the_argument_of_frame(self):
        for count in range(4):
            self.assertEqual(refused_at((161, 4, 162) + (1,) * count), (2, "end"))
        self.assertEqual(refused_at((161, 4, 162, 0, 0, 0, 0)), (2, "argument"))
        self.assertEqual(refused_at((161, 4, 162, 0, 0, 0, 0, 160)), (2, "argument"))
        self.assertEqual(refused_at((161, 4, 162, 1, 0, 0, 0, 163, 162, 0, 0, 0, 0, 160)), (8, "argument"))
        self.assertEqual(refused_at((161, 4, 162, 255, 255, 255, 255, 163)), (8, "end"))

    def test_frame_in_other_versions(self):
        for head in ((), (161, 2), (161, 3)):
            self.assertEqual(refused_at((*head, 162, 1, 0, 0, 0, 160)), (len(head), "opcode"))

    def test_stop_is_the_last_opcode_of_its_frame(self):
        for behind in ((), (160,), (163,), (0,)):
            self.assertEqual(refused_at((161, 4, 162, 2, 0, 0, 0, 160, *behind)), (7, "frame"))
        self.assertEqual(refused_at((161, 4, 162, 255, 255, 255, 255, 160)), (7, "frame"))

    def test_rest(self):
        for version in range(1, 5):
            stream = in_version(version, (163,))
            rows = list(described(stream))
            for rest in ((0,), (160,), (161,), (162, 1, 0, 0, 0, 163), (255, 255)):
                self.assertEqual(refusal(stream + rest), (rows, len(stream), "rest"))

    def test_a_cut_stream_is_refused_with_end(self):
        value = Row("salt", -129, Octets((1, 2)), Pack(None, "salt"), *range(60))
        for version in range(1, 5):
            stream = dump(value, version=version)
            starts = [offset for offset, _, _ in described(stream)]
            for length in range(len(stream)):
                place = length if length in starts else max(at for at in starts if at < length)
                self.assertEqual(refused_at(stream[:length]), (place, "end"))


class AssembledTests(unittest.TestCase):
    def test_every_opcode_of_every_version(self):
        for name, form, since in TABLE.values():
            if name in ("version", "frame"):
                continue
            for version in range(since, 5):
                for argument, octets in ARGUMENTS.get(name, [(None, ())]):
                    code = (NUMBERS[name], *octets)
                    self.assertEqual(assembled(((name, argument), ("stop", None)), version)[:64],
                                     framed_start(version, code))

    def test_what_is_assembled_is_described_as_the_same_rows(self):
        for version in range(1, 5):
            rows = [(name, argument) for name in ARGUMENTS for argument, octets in ARGUMENTS[name]
                    if TABLE[NUMBERS[name]][2] <= version]
            rows += [(name, None) for name in BARE if TABLE[NUMBERS[name]][2] <= version and name != "stop"]
            rows.append(("stop", None))
            stream = assembled(tuple(rows), version)
            self.assertEqual([(name, argument) for _, name, argument in described(stream)
                              if name not in ("version", "frame")], rows)

    def test_what_dump_returns_is_assembled_from_its_rows(self):
        value = Row("salt", "salt", -129, 255, 256, Octets((1, 2)), Pack(None, "a" * 300), *range(60))
        for version in range(1, 5):
            stream = dump(value, version=version)
            rows = tuple((name, argument) for _, name, argument in described(stream)
                         if name not in ("version", "frame"))
            self.assertEqual(assembled(rows, version), stream)

    def test_whether_it_is_right_or_not(self):
        self.assertEqual([assembled((), version) for version in range(1, 5)], [(), (161, 2), (161, 3), (161, 4)])
        self.assertEqual(assembled((("stop", None), ("append", None)), 1), (160, 183))
        self.assertEqual(assembled((("stop", None), ("stop", None)), 4), (161, 4, 162, 2, 0, 0, 0, 160, 160))

    def test_frames(self):
        self.assertEqual(assembled((("none", None),) * 64, 4), (161, 4, 162, 64, 0, 0, 0) + (163,) * 64)
        self.assertEqual(assembled((("none", None),) * 65, 4),
                         (161, 4, 162, 64, 0, 0, 0) + (163,) * 64 + (162, 1, 0, 0, 0, 163))
        rows = (("none", None),) * 63 + (("text-wide", "a" * 5),) + (("none", None),)
        self.assertEqual(assembled(rows, 4), (161, 4, 162, 73, 0, 0, 0) + (163,) * 63 + (170, 5, 0, 0, 0) + (97,) * 5
                         + (162, 1, 0, 0, 0, 163))

    def test_parameters_by_name(self):
        self.assertEqual(assembled(rows=(("stop", None),), version=2), (161, 2, 160))
        self.assertEqual(list(described(stream=(160,))), [(0, "stop", None)])

    def test_no_tuple(self):
        for wrong in NEVER_VALUES[2:] + (None, True, "", [("stop", None)], {"stop": None}, 5):
            self.assertIsNone(caught(InvalidRow, assembled, wrong, 2).position)
            self.assertIsNone(caught(InvalidRow, assembled, wrong, 9).position)

    def assert_wrong_row(self, row, version):
        right = ("none", None)
        self.assertEqual(caught(InvalidRow, assembled, (row,), version).position, 0)
        self.assertEqual(caught(InvalidRow, assembled, (right, right, row, right, row), version).position, 2)

    def test_no_pair(self):
        for row in NEVER_VALUES + (None, 5, "stop", ("stop",), ("stop", None, None), ["stop", None], (None, "stop"),
                                   {"stop": None}, "ab"):
            self.assert_wrong_row(row, 4)

    def test_no_name(self):
        for name in NEVER_VALUES + (None, True, 160, "", "Stop", "stop ", "put", "version", "frame"):
            for argument in (None, 1, 2, "a"):
                self.assert_wrong_row((name, argument), 4)
                self.assert_wrong_row((name, argument), 9)

    def test_lists_and_truths_are_no_names(self):
        for name in ([], ["stop"], [[]], {}, {"stop": None}, True, False, ("stop",), b"stop"):
            for version in (1, 2, 3, 4, 9, None):
                self.assert_wrong_row((name, None), version)

    def test_opcodes_of_later_versions(self):
        for name, _, since in TABLE.values():
            if name in ("version", "frame"):
                continue
            argument = ARGUMENTS.get(name, [(None, ())])[0][0]
            for version in range(1, 5):
                if version < since:
                    self.assert_wrong_row((name, argument), version)
                else:
                    assembled(((name, argument),), version)

    def test_wrong_arguments(self):
        never = NEVER_VALUES[2:] + (True, False, 1.0, Row())
        texts, integers = ("", "a", "a" * 40), (0, 1, 7)
        for name, form, _ in TABLE.values():
            family = name.split("-")[0]
            wrong = list(never)
            if family in ("text", "outer", "class") and form != "none":
                wrong += [None, *integers, "a" * 2001, (), (97,)]
            elif family == "octets":
                wrong += [None, *texts, *integers, (256,), (-1,), (True,), (None,), ("a",), [1], (0,) * 2001]
            elif form == "none":
                wrong += [*texts, *integers, (), "none"]
            else:
                wrong += [None, *texts, (), (1,), 10 ** 300, -(10 ** 300)]
            for argument in wrong:
                self.assert_wrong_row((name, argument), 4)

    def test_arguments_beyond_their_bounds(self):
        for row in (("integer-octet", 256), ("integer-octet", -1), ("put-octet", 256), ("put-octet", -1),
                    ("get-octet", 256), ("put-line", 10000), ("put-line", -1), ("get-line", 10000), ("put-wide", 10000),
                    ("put-wide", -1), ("get-wide", 10000), ("text-short", "a" * 256), ("class-line", "1a"),
                    ("class-line", ""), ("class-line", "a" * 41), ("class-line", "a b"), ("class-line", "a\n")):
            self.assert_wrong_row(row, 4)

    def test_wrong_versions_come_after_wrong_rows(self):
        for wrong in NEVER_VERSIONS:
            self.assertIs(caught(InvalidVersion, assembled, (("bag", None),), wrong).value, wrong)
            self.assertIs(caught(InvalidVersion, assembled, (), wrong).value, wrong)
            self.assertEqual(caught(InvalidRow, assembled, (("bag", None), ("bag", 1)), wrong).position, 1)

    def test_as_many_opcodes_as_a_stream_has_octets(self):
        rows = (("none", None), ("drop", None)) * 24990 + (("none", None), ("stop", None))
        self.assertEqual(assembled(rows, 3), (161, 3) + (163, 175) * 24990 + (163, 160))
        found = list(described((163, 175) * 24999 + (163, 160)))
        self.assertEqual((len(found), found[:3], found[-1]),
                         (50000, [(0, "none", None), (1, "drop", None), (2, "none", None)], (49999, "stop", None)))

    def test_too_long(self):
        self.assertEqual(len(assembled((("none", None),) * 50000, 1)), 50000)
        self.assertEqual(caught(TooLong, assembled, (("none", None),) * 50001, 1).limit, 50000)
        self.assertEqual(caught(TooLong, assembled, (("none", None),) * 49999, 2).limit, 50000)
        count = 50000 - 2 - 725 * 5
        self.assertEqual(len(assembled((("none", None),) * count, 4)), 50000)
        self.assertEqual(caught(TooLong, assembled, (("none", None),) * (count + 1), 4).limit, 50000)
        self.assertEqual(caught(InvalidVersion, assembled, (("none", None),) * 50001, 0).value, 0)


def framed_start(version, code):
    """Return the first 64 octets of the stream of one opcode and a stop as assembled forms its frames."""
    if version < 4 or len(code) < 64:
        return in_version(version, code)[:64]
    return (161, 4, 162, *wide(len(code)), *code, 162, 1, 0, 0, 0, 160)[:64]


class InterfaceTests(unittest.TestCase):
    def test_as_it_is_written(self):
        for name, parameters in (("described", ["stream"]), ("assembled", ["rows", "version"])):
            found = getattr(describing, name)
            self.assertEqual((found.__module__, list(inspect.signature(found).parameters)),
                             ("brinejar.describing", parameters))
        self.assertEqual(number_of("stop"), NUMBERS["stop"])


if __name__ == "__main__":
    unittest.main()
