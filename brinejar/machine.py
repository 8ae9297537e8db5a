"""The machine that runs a stream, with values or with drafts."""

from brinejar.arguments import family_of
from brinejar.drafts import ClassDraft
from brinejar.nodes import Bag, Book, Octets, Pack, Row
from brinejar.stack import Stack

# These do the same whatever the form of the argument.
FAMILIES = ("integer", "text", "octets", "put", "get")


def task_of(name):
    """Return the word for what an opcode does."""
    family = family_of(name)
    return family if family in FAMILIES else name


class Machine:
    """A stack and a memo, and a crew that changes nodes, makes and builds things and knows outside values.

    What an opcode is run with, its content, was found out by the dry run.
    """

    def __init__(self, crew, memo):
        self.stack = Stack()
        self.memo = memo
        self._crew = crew
        self._effects = {
            "stop": self._leave, "version": self._leave, "frame": self._leave,
            "none": self._push, "false": self._push, "true": self._push, "integer": self._push, "text": self._push,
            "octets": self._push_octets, "mark": self._push_mark, "drop": self._drop,
            "drop-to-mark": self._drop_to_mark, "pack": self._pack, "pack-0": self._pack_some,
            "pack-1": self._pack_some, "pack-2": self._pack_some, "pack-3": self._pack_some,
            "row": self._push_row, "append": self._put_last, "append-all": self._put_all,
            "book": self._push_book, "enter": self._enter_pair, "enter-all": self._enter_all,
            "bag": self._push_bag, "add-all": self._add_all, "put": self._give_number, "get": self._push_numbered,
            "class-line": self._push_class, "class-text": self._swap_for_class, "make": self._make,
            "build": self._build, "outer-line": self._push_outside, "outer-text": self._swap_for_outside,
        }

    def perform(self, name, content):
        """Run an opcode that is right."""
        effect = self._effects[task_of(name)]
        effect(content)

    def _leave(self, _):
        pass

    def _push(self, atom):
        self.stack.push(atom)

    def _push_octets(self, numbers):
        self.stack.push(Octets(numbers))

    def _push_mark(self, _):
        self.stack.push_mark()

    def _drop(self, _):
        self.stack.take()

    def _drop_to_mark(self, _):
        self.stack.take_marked()

    def _pack(self, _):
        self.stack.push(Pack.of(tuple(self.stack.take_marked())))

    def _pack_some(self, count):
        self.stack.push(Pack.of(tuple(self.stack.take_many(count))))

    def _push_row(self, _):
        self.stack.push(Row())

    def _put_last(self, _):
        value = self.stack.take()
        self._crew.fill(self.stack.peek(0), [value])

    def _put_all(self, _):
        values = self.stack.take_marked()
        self._crew.fill(self.stack.peek(0), values)

    def _push_book(self, _):
        self.stack.push(Book())

    def _enter_pair(self, _):
        pair = self.stack.take_many(2)
        self._crew.fill(self.stack.peek(0), [pair])

    def _enter_all(self, _):
        contents = self.stack.take_marked()
        pairs = list(zip(contents[::2], contents[1::2]))
        self._crew.fill(self.stack.peek(0), pairs)

    def _push_bag(self, _):
        self.stack.push(Bag())

    def _add_all(self, _):
        members = self.stack.take_marked()
        self._crew.fill(self.stack.peek(0), members)

    def _give_number(self, number):
        self.memo[number] = self.stack.peek(0)

    def _push_numbered(self, number):
        self.stack.push(self.memo[number])

    def _push_class(self, brand):
        self.stack.push(ClassDraft(brand))

    def _swap_for_class(self, brand):
        self.stack.take()
        self._push_class(brand)

    def _make(self, known):
        pack = self.stack.take()
        self.stack.take()
        if known is None:
            # Only the class of Bags is always known.
            self.stack.push(Bag.of(pack.parts[0].parts))
        else:
            self.stack.push(self._crew.thing_of(known, pack.parts))

    def _build(self, known):
        state = self.stack.take()
        self._crew.give_state(known, self.stack.peek(0), state)

    def _push_outside(self, label):
        self.stack.push(self._crew.outside_of(label))

    def _swap_for_outside(self, label):
        self.stack.take()
        self._push_outside(label)
