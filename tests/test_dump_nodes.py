"""Points 18 and 20 in dump: how nodes without hooks are written, and the least memo."""

import unittest

from brinejar.dumping import dump
from brinejar.nodes import Bag, Book, Octets, Pack, Row
from tests.listing import listing, plain


def listed(value, version):
    """Return the listing of a value in a version, without header, frames and stop."""
    return plain(dump(value, version=version))


class RowTests(unittest.TestCase):
    def test_an_empty_row(self):
        for version in range(1, 5):
            self.assertEqual(listed(Row(), version), "row")

    def test_one_item(self):
        self.assertEqual(listed(Row(True), 1), "row; true; append")
        for version in (2, 3, 4):
            self.assertEqual(listed(Row(True), version), "row; true; append")

    def test_more_items(self):
        self.assertEqual(listed(Row(True, None), 1), "row; true; append; none; append")
        for version in (2, 3, 4):
            self.assertEqual(listed(Row(True, None), version), "row; mark; true; none; append-all")
            self.assertEqual(listed(Row(*[None] * 5), version), "row; mark" + "; none" * 5 + "; append-all")

    def test_a_row_in_itself(self):
        row = Row()
        row.put_last(row)
        self.assertEqual(listed(row, 1), "row; put-line 0; get-line 0; append")
        self.assertEqual(listed(row, 4), "row; put-next; get-octet 0; append")
        self.assertEqual(dump(row, version=2), (161, 2, 182, 191, 0, 195, 0, 183, 160))
        row.put_last(row)
        self.assertEqual(listed(row, 3), "row; put-next; mark; get-octet 0; get-octet 0; append-all")

    def test_rows_in_rows(self):
        self.assertEqual(listed(Row(Row(Row()), 1), 3), "row; mark; row; row; append; integer-octet 1; append-all")


class BookTests(unittest.TestCase):
    def test_an_empty_book(self):
        for version in range(1, 5):
            self.assertEqual(listed(Book(), version), "book")

    def test_one_pair(self):
        book = Book.of(((2, None),))
        self.assertEqual(listed(book, 1), "book; integer-line 2; none; enter")
        for version in (2, 3, 4):
            self.assertEqual(listed(book, version), "book; integer-octet 2; none; enter")

    def test_more_pairs(self):
        book = Book.of((("b", Row()), (1, True), ("a", None)))
        self.assertEqual(listed(book, 1), "book; text-line b; row; enter; integer-line 1; true; enter; "
                                          "text-line a; none; enter")
        self.assertEqual(listed(book, 3), "book; mark; text-short 'b'; row; integer-octet 1; true; text-short 'a'; "
                                          "none; enter-all")

    def test_a_book_in_itself_and_a_long_key(self):
        book = Book()
        book.enter("salt", book)
        self.assertEqual(listed(book, 2), "book; put-octet 0; text-wide 'salt'; get-octet 0; enter")
        book.enter("more", "salt")
        self.assertEqual(listed(book, 3), "book; put-next; mark; text-short 'salt'; put-next; get-octet 0; "
                                          "text-short 'more'; get-octet 1; enter-all")


class BagTests(unittest.TestCase):
    def test_an_empty_bag(self):
        self.assertEqual(listed(Bag(), 1), "class-line bag; mark; row; pack; make")
        self.assertEqual(listed(Bag(), 2), "class-line bag; row; pack-1; make")
        self.assertEqual(listed(Bag(), 3), "class-line bag; row; pack-1; make")
        self.assertEqual(listed(Bag(), 4), "bag")

    def test_one_member(self):
        self.assertEqual(listed(Bag(7), 1), "class-line bag; mark; row; integer-line 7; append; pack; make")
        self.assertEqual(listed(Bag(7), 2), "class-line bag; row; integer-octet 7; append; pack-1; make")
        self.assertEqual(listed(Bag(7), 4), "bag; mark; integer-octet 7; add-all")

    def test_more_members_ascend(self):
        bag = Bag("b", 2, "a", -1)
        self.assertEqual(listed(bag, 1), "class-line bag; mark; row; integer-line -1; append; integer-line 2; append; "
                                         "text-line a; append; text-line b; append; pack; make")
        self.assertEqual(listed(bag, 3), "class-line bag; row; mark; integer-counted -1/1; integer-octet 2; "
                                         "text-short 'a'; text-short 'b'; append-all; pack-1; make")
        self.assertEqual(listed(bag, 4), "bag; mark; integer-counted -1/1; integer-octet 2; text-short 'a'; "
                                         "text-short 'b'; add-all")

    def test_a_bag_that_is_got(self):
        bag = Bag("salt")
        row = Row(bag, bag)
        self.assertEqual(listed(row, 2), "row; mark; class-line bag; row; text-wide 'salt'; append; pack-1; make; "
                                         "put-octet 0; get-octet 0; append-all")
        self.assertEqual(listed(row, 4), "row; mark; bag; put-next; mark; text-short 'salt'; add-all; get-octet 0; "
                                         "append-all")

    def test_a_long_member_that_is_got(self):
        row = Row(Bag("salt"), "salt")
        self.assertEqual(listed(row, 3), "row; mark; class-line bag; row; text-short 'salt'; put-next; append; pack-1; "
                                         "make; get-octet 0; append-all")
        self.assertEqual(listed(row, 4), "row; mark; bag; mark; text-short 'salt'; put-next; add-all; get-octet 0; "
                                         "append-all")


class PackTests(unittest.TestCase):
    def test_up_to_three_items(self):
        for count in range(4):
            pack = Pack(*[None] * count)
            self.assertEqual(listed(pack, 1), "mark" + "; none" * count + "; pack")
            for version in (2, 3, 4):
                self.assertEqual(listed(pack, version), "none; " * count + f"pack-{count}")

    def test_more_items(self):
        for version in range(1, 5):
            self.assertEqual(listed(Pack(*[None] * 4), version), "mark" + "; none" * 4 + "; pack")

    def test_a_pack_that_is_got(self):
        pack = Pack(True)
        self.assertEqual(listed(Pack(pack, pack), 1), "mark; mark; true; pack; put-line 0; get-line 0; pack")
        self.assertEqual(listed(Pack(pack, pack), 4), "true; pack-1; put-next; get-octet 0; pack-2")

    def test_equal_packs_are_not_the_same_pack(self):
        self.assertEqual(listed(Pack(Pack(), Pack()), 2), "pack-0; pack-0; pack-2")


class RingTests(unittest.TestCase):
    def ring(self, before=(), behind=()):
        """Return a Pack that contains a Row that contains the Pack."""
        row = Row()
        pack = Pack(*before, row, *behind)
        row.put_last(pack)
        return pack

    def test_a_pack_of_one_item(self):
        self.assertEqual(dump(self.ring(), version=2),
                         (161, 2, 182, 191, 0, 195, 0, 179, 191, 1, 183, 175, 195, 1, 160))
        self.assertEqual(listed(self.ring(), 1), "mark; row; put-line 0; mark; get-line 0; pack; put-line 1; append; "
                                                 "drop-to-mark; get-line 1")
        self.assertEqual(listed(self.ring(), 4),
                         "row; put-next; get-octet 0; pack-1; put-next; append; drop; get-octet 1")

    def test_a_drop_for_each_item_that_was_written(self):
        self.assertEqual(listed(self.ring((True,)), 3),
                         "true; row; put-next; true; get-octet 0; pack-2; put-next; append; drop; drop; get-octet 1")
        self.assertEqual(listed(self.ring((True, False)), 3),
                         "true; false; row; put-next; true; false; get-octet 0; pack-3; put-next; append; "
                         "drop; drop; drop; get-octet 1")

    def test_items_behind_the_ring_are_not_written_again(self):
        self.assertEqual(listed(self.ring((True,), (False,)), 3),
                         "true; row; put-next; true; get-octet 0; false; pack-3; put-next; append; drop; drop; "
                         "get-octet 1")
        self.assertEqual(listed(self.ring((), (None, False)), 2),
                         "row; put-octet 0; get-octet 0; none; false; pack-3; put-octet 1; append; drop; get-octet 1")

    def test_drop_to_mark_for_long_packs(self):
        self.assertEqual(listed(self.ring((True, False), (None,)), 3),
                         "mark; true; false; row; put-next; mark; true; false; get-octet 0; none; pack; put-next; "
                         "append; drop-to-mark; get-octet 1")

    def test_a_pack_twice_in_its_row(self):
        row = Row()
        pack = Pack(row)
        row.put_last(pack)
        row.put_last(pack)
        self.assertEqual(listed(pack, 3),
                         "row; put-next; mark; get-octet 0; pack-1; put-next; get-octet 1; append-all; drop; "
                         "get-octet 1")

    def test_the_row_first(self):
        row = Row()
        row.put_last(Pack(row))
        self.assertEqual(listed(row, 3), "row; put-next; get-octet 0; pack-1; append")

    def test_two_packs_in_each_other(self):
        row = Row()
        inner = Pack(row)
        outer = Pack(inner)
        row.put_last(outer)
        # Inside the row the outer Pack is written again, and in it the inner one.
        self.assertEqual(listed(outer, 3), "row; put-next; get-octet 0; pack-1; put-next; pack-1; put-next; append; "
                                           "drop; get-octet 1; drop; get-octet 2")

    def test_a_ring_through_two_rows(self):
        one, two = Row(), Row()
        pack = Pack(one, two)
        one.put_last(pack)
        two.put_last(pack)
        self.assertEqual(listed(pack, 3),
                         "row; put-next; get-octet 0; row; put-next; get-octet 0; get-octet 1; pack-2; put-next; "
                         "append; drop; drop; get-octet 2; append; drop; get-octet 2")

    def test_a_ring_through_a_book(self):
        book = Book()
        pack = Pack(book)
        book.enter(1, pack)
        self.assertEqual(listed(pack, 3),
                         "book; put-next; integer-octet 1; get-octet 0; pack-1; put-next; enter; drop; get-octet 1")

    def test_what_was_dropped_keeps_its_numbers(self):
        row = Row()
        pack = Pack("salt", row)
        row.put_last(pack)
        self.assertEqual(listed(Row(pack, "salt"), 3),
                         "row; mark; text-short 'salt'; put-next; row; put-next; get-octet 0; get-octet 1; pack-2; "
                         "put-next; append; drop; drop; get-octet 2; get-octet 0; append-all")


class MemoTests(unittest.TestCase):
    def test_texts_of_four_characters_are_shared(self):
        self.assertEqual(listed(Row("salt", "salt"), 3),
                         "row; mark; text-short 'salt'; put-next; get-octet 0; append-all")
        self.assertEqual(listed(Row("sal", "sal"), 3), "row; mark; text-short 'sal'; text-short 'sal'; append-all")
        self.assertEqual(listed(Row("salt", "sals"), 3), "row; mark; text-short 'salt'; text-short 'sals'; append-all")

    def test_texts_are_shared_by_value(self):
        parts = ["".join(["sa", "lt"]) for _ in range(3)]
        self.assertEqual(listed(Pack(*parts), 2), "text-wide 'salt'; put-octet 0; get-octet 0; get-octet 0; pack-3")

    def test_other_atoms_are_not_shared(self):
        self.assertEqual(listed(Pack(10000, 10000), 2), "integer-counted 10000/2; integer-counted 10000/2; pack-2")

    def test_only_what_is_got_is_put_and_numbers_are_least(self):
        octets, row = Octets((1,)), Row("once")
        value = Row("first", row, octets, "twice", row, "twice")
        self.assertEqual(listed(value, 2),
                         "row; mark; text-wide 'first'; row; put-octet 0; text-wide 'once'; append; octets-line 01; "
                         "text-wide 'twice'; put-octet 1; get-octet 0; get-octet 1; append-all")

    def test_numbers_follow_the_puts_and_not_the_gets(self):
        one, two = Row(), Row()
        self.assertEqual(listed(Pack(one, two, Row(two, one)), 2),
                         "row; put-octet 0; row; put-octet 1; row; mark; get-octet 1; get-octet 0; append-all; pack-3")

    def test_every_kind_of_node_is_shared(self):
        for node, written in ((Octets(), "octets-wide"), (Row(), "row"), (Book(), "book"), (Bag(), "bag"),
                              (Pack(), "pack-0")):
            self.assertEqual(listed(Pack(node, node), 4), f"{written}; put-next; get-octet 0; pack-2")

    def test_dump_changes_nothing(self):
        row = Row(1)
        pack = Pack(row, "salt")
        row.put_last(pack)
        first = [dump(pack, version=version) for version in range(1, 5)]
        self.assertEqual([dump(pack, version=version) for version in range(1, 5)], first)
        self.assertEqual((pack.parts, row.parts), ((row, "salt"), (1, pack)))


class FrameTests(unittest.TestCase):
    def frames(self, value):
        """Return the lengths of the frames, after checking that the stream is made of them."""
        stream = dump(value, version=4)
        self.assertEqual(stream[:2], (161, 4))
        at, lengths = 2, []
        while at < len(stream):
            self.assertEqual((stream[at], stream[at + 3:at + 5]), (162, (0, 0)))
            lengths.append(stream[at + 1] + 256 * stream[at + 2])
            at += 5 + lengths[-1]
        self.assertEqual(at, len(stream))
        return lengths

    def test_headers(self):
        self.assertEqual(dump(None, version=1)[0], 163)
        for version in (2, 3, 4):
            self.assertEqual(dump(None, version=version)[:2], (161, version))

    def test_one_frame(self):
        self.assertEqual(listing(dump(None)), "version 4; frame 2; none; stop")
        self.assertEqual(self.frames("a" * 60), [63])
        # Row, mark, so many nones, append-all, stop.
        self.assertEqual(self.frames(Row(*[None] * 59)), [63])
        self.assertEqual(self.frames(Row(*[None] * 60)), [64])

    def test_the_next_frame_begins_behind_64_octets(self):
        self.assertEqual(self.frames(Row(*[None] * 61)), [64, 1])
        self.assertEqual(self.frames(Row(*[None] * 125)), [64, 64, 1])
        self.assertEqual(self.frames("a" * 62), [64, 1])
        self.assertEqual(self.frames("a" * 61), [64])

    def test_an_opcode_lies_wholly_in_one_frame(self):
        self.assertEqual(self.frames(Octets((0,) * 2000)), [2005, 1])
        parts = [None] * 61 + [Octets((0,) * 300)] + [None] * 2
        # 63 octets are not enough, so the long opcode is in the same frame.
        self.assertEqual(self.frames(Row(*parts)), [63 + 305, 4])
        self.assertEqual(self.frames(Row(None, *parts)), [64, 305, 4])

    def test_frames_are_formed_without_the_puts_that_are_left_out(self):
        self.assertEqual(self.frames(Row(*[Row() for _ in range(60)])), [64])

    def test_a_frame_of_a_wide_length(self):
        stream = dump(Octets((9,) * 300))
        self.assertEqual(stream[:12], (161, 4, 162, 49, 1, 0, 0, 173, 44, 1, 0, 0))
        self.assertEqual(stream[-6:], (162, 1, 0, 0, 0, 160))


if __name__ == "__main__":
    unittest.main()
