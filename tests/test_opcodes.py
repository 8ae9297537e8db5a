"""Point 8: the table of the opcodes."""

import unittest

from brinejar.errors import NoName
from brinejar.opcodes import name_of, number_of, opcode_names, since
from tests.helpers import NEVER_VALUES, caught
from tests.listing import TABLE

NEVER_NAMES = NEVER_VALUES + (None, True, False, 0, 1, -1, 160, 202, "", " ", "put", "get", "Stop", "STOP",
                              " stop", "stop ", "stop\n", "sto", "stops", "pack-4", "pack_0", "pack 0", "integer",
                              "append_all", "Append-all", "wide-counted", "none ", "None", "160", b"stop", ("stop",))
NEVER_NUMBERS = NEVER_VALUES + (None, True, False, 0, 1, -1, 10, 159, 203, 255, 256, -160, 160 + 256,
                                "160", "stop", "", 160.0, (160,))


class OpcodeTests(unittest.TestCase):
    def test_the_table_of_the_document_has_43_rows(self):
        self.assertEqual(list(TABLE), list(range(160, 203)))
        self.assertEqual(len({name for name, _, _ in TABLE.values()}), 43)

    def test_names_in_the_order_of_their_numbers(self):
        names = opcode_names()
        self.assertIs(type(names), tuple)
        self.assertEqual(names, tuple(name for name, _, _ in TABLE.values()))

    def test_numbers_and_names_lead_back(self):
        for number, (name, _, version) in TABLE.items():
            self.assertEqual(number_of(name), number)
            self.assertEqual(name_of(number), name)
            self.assertEqual(since(name), version)

    def test_all_numbers_from_0_to_300(self):
        for number in range(301):
            if number in TABLE:
                self.assertEqual(name_of(number), TABLE[number][0])
            else:
                self.assertEqual(caught(NoName, name_of, number).given, number)

    def test_lists_and_truths(self):
        for wrong in ([], ["stop"], [160], [["stop"]], {}, {"stop": 160}, True, False):
            for call in (name_of, number_of, since):
                self.assertIs(caught(NoName, call, wrong).given, wrong)

    def test_answers_of_their_kinds(self):
        for name in opcode_names():
            self.assertEqual([type(answer) for answer in (name, number_of(name), since(name))], [str, int, int])

    def test_by_name(self):
        self.assertEqual((number_of(name="stop"), name_of(number=202), since(name="bag")), (160, "outer-text", 4))

    def test_no_name(self):
        for wrong in NEVER_NAMES:
            self.assertIs(caught(NoName, number_of, wrong).given, wrong)
            self.assertIs(caught(NoName, since, wrong).given, wrong)

    def test_no_number(self):
        for wrong in NEVER_NUMBERS:
            self.assertIs(caught(NoName, name_of, wrong).given, wrong)


if __name__ == "__main__":
    unittest.main()
