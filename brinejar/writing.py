"""Full writing: each text and node that can have a number gets one."""

from brinejar.choices import atom_opcode, octets_opcode
from brinejar.encoding import octets_of
from brinejar.errors import Full, InvalidValue, SelfArgument, TooDeep
from brinejar.nodes import Node, is_atom_or_node
from brinejar.steps import with_least_memo

DEPTH_LIMIT = 50
SHARED_TEXT_LENGTH = 4
UNMARKED_PARTS = 3


class Writing:
    """The steps that write values one after the other, with one memo.

    The memo gives no number above the memo limit, if there is one.
    """

    def __init__(self, source, version, memo, memo_limit=None):
        self.steps = []
        self.memo = memo
        self._memo_limit = memo_limit
        self._source = source
        self._version = version
        self._depth = 0
        self._unmade = {}

    def write_whole(self, value):
        """Write a value and the end of its stream."""
        self.write(value)
        self.emit("stop")

    def write(self, value):
        """Write a value with all that it contains."""
        self._begin_value()
        if not is_atom_or_node(value):
            raise InvalidValue(value)
        if isinstance(value, Node):
            self._write_node(value)
        else:
            self._write_atom(value)
        self._end_value()

    def emit(self, name, argument=None):
        """Append an opcode other than a put or a get."""
        self.steps.append(("code", octets_of(name, argument)))

    def _begin_value(self):
        if self._depth == DEPTH_LIMIT:
            raise TooDeep(DEPTH_LIMIT)
        self._depth += 1

    def _end_value(self):
        self._depth -= 1

    def _put(self, owner):
        number = len(self.memo)
        if self._memo_limit is not None and number > self._memo_limit:
            raise Full(self._memo_limit)
        self.memo[owner] = number
        self.steps.append(("put", number))

    def _get(self, owner):
        self.steps.append(("get", self.memo[owner]))

    def _write_atom(self, atom):
        if isinstance(atom, str):
            self._write_text(atom)
        else:
            self.emit(atom_opcode(self._version, atom), atom)

    def _write_text(self, text):
        if text in self.memo:
            self._get(text)
            return
        self.emit(atom_opcode(self._version, text), text)
        if len(text) >= SHARED_TEXT_LENGTH:
            self._put(text)

    def _write_node(self, node):
        if node in self.memo:
            self._get(node)
            return
        label = self._source.label_of(node)
        if label is None:
            self._write_contents(node)
        else:
            self._write_outside(label)

    def _write_outside(self, label):
        if self._version == 1:
            self.emit("outer-line", label)
        else:
            self._write_text(label)
            self.emit("outer-text")

    def _write_contents(self, node):
        shape = node.shape
        if shape == "octets":
            self._write_octets(node)
        elif shape == "pack":
            self._write_pack(node)
        elif shape == "row":
            self._write_row(node)
        elif shape == "book":
            self._write_book(node)
        elif shape == "bag":
            self._write_bag(node)
        else:
            self._write_thing(node)

    def _write_octets(self, node):
        self.emit(octets_opcode(self._version), node.numbers)
        self._put(node)

    def _write_row(self, row):
        self.emit("row")
        self._put(row)
        self._fill_row(row.parts)

    def _fill_row(self, parts):
        if self._is_filled_singly(len(parts)):
            for part in parts:
                self.write(part)
                self.emit("append")
        elif parts:
            self._write_marked(parts)
            self.emit("append-all")

    def _write_book(self, book):
        self.emit("book")
        self._put(book)
        self._fill_book(book.pairs)

    def _fill_book(self, pairs):
        if self._is_filled_singly(len(pairs)):
            for key, value in pairs:
                self.write(key)
                self.write(value)
                self.emit("enter")
        elif pairs:
            self._write_marked([content for pair in pairs for content in pair])
            self.emit("enter-all")

    def _is_filled_singly(self, count):
        return self._version == 1 or count == 1

    def _write_marked(self, values):
        self.emit("mark")
        for value in values:
            self.write(value)

    def _write_bag(self, bag):
        if self._version < 4:
            self.emit("class-line", "bag")
            self._write_row_in_pack(bag.members)
            self.emit("make")
            self._put(bag)
            return
        self.emit("bag")
        self._put(bag)
        if bag.members:
            self._write_marked(bag.members)
            self.emit("add-all")

    def _write_row_in_pack(self, parts):
        self._begin_pack(1)
        self.emit("row")
        self._fill_row(parts)
        self._end_pack(1)

    def _write_pack(self, pack):
        count = len(pack.parts)
        self._begin_pack(count)
        for written, part in enumerate(pack.parts, start=1):
            self.write(part)
            # A part that contains the Pack has written it whole by now.
            if pack in self.memo:
                self._drop_parts(count, written)
                self._get(pack)
                return
        self._end_pack(count)
        self._put(pack)

    def _write_arguments(self, arguments):
        self._begin_value()
        self._begin_pack(len(arguments))
        for argument in arguments:
            self.write(argument)
        self._end_pack(len(arguments))
        self._end_value()

    def _is_marked_pack(self, count):
        return self._version == 1 or count > UNMARKED_PARTS

    def _begin_pack(self, count):
        if self._is_marked_pack(count):
            self.emit("mark")

    def _end_pack(self, count):
        self.emit("pack" if self._is_marked_pack(count) else f"pack-{count}")

    def _drop_parts(self, count, written):
        if self._is_marked_pack(count):
            self.emit("drop-to-mark")
            return
        for _ in range(written):
            self.emit("drop")

    def _write_thing(self, thing):
        if thing in self._unmade:
            raise SelfArgument(thing.brand)
        arguments, state, fields = self._source.take_apart(thing)
        self._unmade[thing] = True
        self._write_class(thing.brand)
        self._write_arguments(arguments)
        self.emit("make")
        self._put(thing)
        del self._unmade[thing]
        self._write_state(state, fields)

    def _write_class(self, brand):
        if self._version < 4:
            self.emit("class-line", brand)
        else:
            self._write_text(brand)
            self.emit("class-text")

    def _write_state(self, state, fields):
        if fields:
            self._write_new_book(fields)
            self.emit("build")
        elif state is not None:
            self.write(state)
            self.emit("build")

    def _write_new_book(self, pairs):
        self._begin_value()
        self.emit("book")
        self._fill_book(pairs)
        self._end_value()


def dumped_steps(value, source, version):
    """Return the steps of the stream of one value alone, with the least memo."""
    writing = Writing(source, version, {})
    writing.write_whole(value)
    return with_least_memo(writing.steps)
