"""Reading graph texts."""

from brinejar.graphs import is_pack
from brinejar.graphwriting import OPEN_LIMIT
from brinejar.nodes import Bag, Book, Node, Octets, Row, Thing, add_members, ascending, holds_key
from brinejar.tokens import Tokens

ATOM_KINDS = ("atom", "integer", "text")
KEY_KINDS = ("integer", "text")


class GrowingPack(Node):
    """Stands for a Pack while its items are read."""

    SHAPE = "pack"

    def __init__(self):
        self._sequence = []

    @property
    def parts(self):
        """The tuple of the items that are read."""
        return tuple(self._sequence)

    def put_last(self, value):
        """Put a value behind the last item."""
        self._sequence.append(value)

    def _contents(self):
        return self.parts


class GraphReader:
    """Reads the value of a graph text, with a GrowingPack in the place of each Pack."""

    def __init__(self, text):
        self._tokens = Tokens(text)
        self._given = []
        self._nesting = []
        self._readers = {
            "octets": self._read_nothing, "(": self._read_pack, "[": self._read_row, "{": self._read_book,
            "bag": self._read_bag, "brand": self._read_thing,
        }

    def read(self):
        """Return the value."""
        self._tokens.advance()
        value = self._read_value()
        self._require_kind("end")
        return value

    def _read_value(self):
        kind = self._tokens.kind
        if kind in ATOM_KINDS:
            return self._pass_content()
        if kind == "given":
            return self._read_given()
        if kind == "giving":
            self._tokens.require(self._tokens.content == len(self._given))
            self._tokens.advance()
        return self._read_node(kind == "giving")

    def _read_given(self):
        number = self._tokens.content
        self._tokens.require(number < len(self._given))
        node = self._given[number]
        self._tokens.require(not self._closes_ring(node))
        self._tokens.advance()
        return node

    def _read_node(self, has_number):
        kind = self._tokens.kind
        self._tokens.require(kind in self._readers and len(self._nesting) < OPEN_LIMIT)
        node = bare_node(kind, self._tokens.content)
        if has_number:
            self._given.append(node)
        self._nesting.append(node)
        self._tokens.advance()
        read_contents = self._readers[kind]
        read_contents(node)
        self._nesting.pop()
        return node

    def _read_nothing(self, _):
        pass

    def _read_pack(self, pack):
        if self._passes(")"):
            return
        self._read_part(pack)
        if self._passes(",)"):
            return
        self._require_kind(", ")
        while self._passes(", "):
            self._read_part(pack)
        self._pass(")")

    def _read_row(self, row):
        self._read_entries(self._read_part, row, "]")

    def _read_book(self, book):
        self._read_entries(self._read_pair, book, "}")

    def _read_thing(self, thing):
        self._read_entries(self._read_field, thing, "}")

    def _read_bag(self, bag):
        members = []
        self._read_entries(self._read_member, members, "}")
        add_members(bag, members)

    def _read_entries(self, read_entry, target, closing):
        if self._passes(closing):
            return
        read_entry(target)
        while self._passes(", "):
            read_entry(target)
        self._pass(closing)

    def _read_part(self, sequence):
        sequence.put_last(self._read_value())

    def _read_pair(self, book):
        key = self._read_new_key(book, KEY_KINDS)
        book.enter(key, self._read_value())

    def _read_field(self, thing):
        label = self._read_new_key(thing, ("text",))
        thing.set_field(label, self._read_value())

    def _read_new_key(self, node, kinds):
        self._tokens.require(self._tokens.kind in kinds and not holds_key(node, self._tokens.content))
        key = self._pass_content()
        self._pass(": ")
        return key

    def _read_member(self, members):
        self._tokens.require(self._tokens.kind in KEY_KINDS)
        self._tokens.require(not members or ascend(members[-1], self._tokens.content))
        members.append(self._pass_content())

    def _require_kind(self, kind):
        self._tokens.require(self._tokens.kind == kind)

    def _pass(self, kind):
        self._require_kind(kind)
        self._tokens.advance()

    def _passes(self, kind):
        """Go on behind a token of this kind, or tell that there is another one."""
        if self._tokens.kind != kind:
            return False
        self._tokens.advance()
        return True

    def _pass_content(self):
        content = self._tokens.content
        self._tokens.advance()
        return content

    def _closes_ring(self, node):
        """Tell whether the innermost open node is a Pack that would contain itself by way of Packs only."""
        packs = self._innermost_packs()
        waiting = [node] if packs and is_pack(node) else []
        met = {}
        while waiting:
            pack = waiting.pop()
            if pack in packs:
                return True
            if pack not in met:
                met[pack] = True
                waiting.extend([part for part in pack.parts if is_pack(part)])
        return False

    def _innermost_packs(self):
        """Return a dict of the open Packs that contain the next value by way of Packs only."""
        packs = {}
        for node in self._nesting[::-1]:
            if not is_pack(node):
                return packs
            packs[node] = True
        return packs


def bare_node(kind, content):
    """Return a new node for the token with which it begins, without contents."""
    if kind == "octets":
        return Octets(content)
    if kind == "(":
        return GrowingPack()
    if kind == "[":
        return Row()
    if kind == "{":
        return Book()
    return Bag() if kind == "bag" else Thing(content)


def ascend(key, other):
    """Tell whether a key comes before another one in a Bag."""
    return key != other and ascending([key, other]) == (key, other)
