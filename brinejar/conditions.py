"""What must hold before an opcode is run, as far as drafts can tell."""

from brinejar.arguments import MEMO_LIMIT
from brinejar.atoms import RESERVED_BRAND
from brinejar.drafts import is_key_draft, shape_of
from brinejar.errors import Refused
from brinejar.machine import task_of
from brinejar.nodes import holds_key

NUMBERED_SHAPES = ("text", "octets", "pack", "row", "book", "bag", "thing")
PLAIN_ATOMS = {"none": None, "false": False, "true": True}
BAG_TAKES = 1


class Conditions:
    """Checks opcodes against the stack and the memo of a machine, and changes neither."""

    def __init__(self, machine, registry, has_outside):
        self._offset = 0
        self._stack = machine.stack
        self._memo = machine.memo
        self._registry = registry
        self._has_outside = has_outside
        self._checks = {
            "stop": self._stop, "drop": self._drop, "drop-to-mark": self._drop_to_mark, "pack": self._pack,
            "pack-0": self._pack_some, "pack-1": self._pack_some, "pack-2": self._pack_some,
            "pack-3": self._pack_some, "append": self._append, "append-all": self._append_all,
            "enter": self._enter, "enter-all": self._enter_all, "add-all": self._add_all, "put": self._put,
            "get": self._get, "class-line": self._class_line, "class-text": self._class_text,
            "make": self._make, "build": self._build, "outer-line": self._outer_line,
            "outer-text": self._outer_text,
        }

    def content_of(self, offset, name, argument):
        """Return what an opcode is to be run with, or raise Refused if it is wrong."""
        task = task_of(name)
        if task in PLAIN_ATOMS:
            return PLAIN_ATOMS[task]
        if task not in self._checks:
            return argument
        self._offset = offset
        check = self._checks[task]
        return check(name, argument)

    def _require(self, holds, reason):
        if not holds:
            raise Refused(self._offset, reason)

    def _require_above(self, count):
        self._require(self._stack.above() >= count, "stack")

    def _require_values(self, drafts):
        self._require(all([shape_of(draft) != "class" for draft in drafts]), "kind")

    def _require_keys(self, drafts):
        self._require(all([is_key_draft(draft) for draft in drafts]), "kind")

    def _require_shape(self, draft, shape):
        self._require(shape_of(draft) == shape, "kind")

    def _require_new_keys(self, node, keys):
        self._require(not any([holds_key(node, key) for key in keys]), "key")
        self._require_different(keys)

    def _require_different(self, keys):
        self._require(len({key: True for key in keys}) == len(keys), "key")

    def _stop(self, name, argument):
        self._require(not self._stack.has_mark() and self._stack.above() == 1, "stack")
        self._require_values([self._stack.peek(0)])

    def _drop(self, name, argument):
        self._require_above(1)

    def _drop_to_mark(self, name, argument):
        self._require(self._stack.has_mark(), "stack")

    def _pack(self, name, argument):
        self._require(self._stack.has_mark(), "stack")
        self._require_values(self._stack.peek_marked())

    def _pack_some(self, name, argument):
        count = int(name[-1])
        self._require_above(count)
        self._require_values([self._stack.peek(depth) for depth in range(count)])
        return count

    def _append(self, name, argument):
        self._require_above(2)
        self._require_values([self._stack.peek(0)])
        self._require_shape(self._stack.peek(1), "row")

    def _append_all(self, name, argument):
        self._require(self._stack.has_below(), "stack")
        self._require_values(self._stack.peek_marked())
        self._require_shape(self._stack.peek_below(), "row")

    def _enter(self, name, argument):
        self._require_above(3)
        book, key = self._stack.peek(2), self._stack.peek(1)
        self._require_values([self._stack.peek(0)])
        self._require_keys([key])
        self._require_shape(book, "book")
        self._require_new_keys(book, [key])

    def _enter_all(self, name, argument):
        self._require(self._stack.has_below(), "stack")
        book, contents = self._stack.peek_below(), self._stack.peek_marked()
        self._require(len(contents) % 2 == 0, "stack")
        self._require_values(contents[1::2])
        self._require_keys(contents[::2])
        self._require_shape(book, "book")
        self._require_new_keys(book, contents[::2])

    def _add_all(self, name, argument):
        self._require(self._stack.has_below(), "stack")
        bag, members = self._stack.peek_below(), self._stack.peek_marked()
        self._require_keys(members)
        self._require_shape(bag, "bag")
        self._require_new_keys(bag, members)

    def _put(self, name, argument):
        number = len(self._memo) if name == "put-next" else argument
        self._require_above(1)
        self._require(shape_of(self._stack.peek(0)) in NUMBERED_SHAPES, "kind")
        self._require(number not in self._memo and number <= MEMO_LIMIT, "memo")
        return number

    def _get(self, name, argument):
        self._require(argument in self._memo, "memo")
        return argument

    def _class_line(self, name, argument):
        self._require(argument == RESERVED_BRAND or argument in self._registry, "class")
        return argument

    def _class_text(self, name, argument):
        return self._class_line(name, self._text_on_top())

    def _text_on_top(self):
        self._require_above(1)
        text = self._stack.peek(0)
        self._require_shape(text, "text")
        return text

    def _make(self, name, argument):
        self._require_above(2)
        pack, known_class = self._stack.peek(0), self._stack.peek(1)
        self._require_shape(known_class, "class")
        self._require_shape(pack, "pack")
        if known_class.brand == RESERVED_BRAND:
            self._require_bag_parts(pack.parts)
            return None
        known = self._registry.entry_of(known_class.brand)
        self._require(len(pack.parts) == known.takes, "class")
        return known

    def _require_bag_parts(self, parts):
        if len(parts) == BAG_TAKES:
            self._require_shape(parts[0], "row")
            self._require_keys(parts[0].parts)
            self._require_different(parts[0].parts)
        self._require(len(parts) == BAG_TAKES, "class")

    def _build(self, name, argument):
        self._require_above(2)
        state, thing = self._stack.peek(0), self._stack.peek(1)
        self._require_values([state])
        self._require_shape(thing, "thing")
        self._require(thing.brand in self._registry, "kind")
        known = self._registry.entry_of(thing.brand)
        self._require(known.accepts_state(state), "kind")
        return known

    def _outer_line(self, name, argument):
        self._require(self._has_outside, "outer")
        return argument

    def _outer_text(self, name, argument):
        return self._outer_line(name, self._text_on_top())
