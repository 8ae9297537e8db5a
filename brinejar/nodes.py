"""The nodes of graphs: Octets, Pack, Row, Book, Bag and Thing."""

from brinejar.atoms import are_octets, is_atom, is_free_brand, is_integer, is_key, is_text
from brinejar.errors import InvalidBrand, InvalidIndex, InvalidKey, InvalidNumbers, InvalidValue
from brinejar.errors import KeyTaken, NoEntry

NUMBERS_LIMIT = 2000


class Node:
    """The base class of all nodes; two nodes are equal only if they are the same object."""

    SHAPE = "node"

    @property
    def shape(self):
        """The word for the class of the node."""
        return self.SHAPE

    def children(self):
        """Yield the contents in order."""
        yield from self._contents()

    def _contents(self):
        return ()


class Octets(Node):
    """A fixed tuple of numbers."""

    SHAPE = "octets"

    def __init__(self, numbers=()):
        if not are_octets(numbers, NUMBERS_LIMIT):
            raise InvalidNumbers(numbers)
        self._numbers = numbers

    @property
    def numbers(self):
        """The tuple of the numbers."""
        return self._numbers


class Pack(Node):
    """A fixed tuple of values."""

    SHAPE = "pack"

    def __init__(self, *parts):
        require_values(parts)
        self._parts = parts

    @classmethod
    def of(cls, parts):
        """Return the Pack of the values in one tuple."""
        require_tuple(parts)
        return cls(*parts)

    @property
    def parts(self):
        """The tuple of the items."""
        return self._parts

    def _contents(self):
        return self.parts


class Row(Node):
    """A sequence of values that grows and changes."""

    SHAPE = "row"

    def __init__(self, *parts):
        require_values(parts)
        self._sequence = list(parts)

    @classmethod
    def of(cls, parts):
        """Return a new Row of the values in one tuple."""
        require_tuple(parts)
        return cls(*parts)

    @property
    def parts(self):
        """The tuple of the items."""
        return tuple(self._sequence)

    def put_last(self, value):
        """Put a value behind the last item."""
        require_value(value)
        self._sequence.append(value)

    def put_at(self, index, value):
        """Put a value in the place of the item at the index."""
        if not is_integer(index) or not 0 <= index < len(self._sequence):
            raise InvalidIndex(index)
        require_value(value)
        self._sequence[index] = value

    def _contents(self):
        return self.parts


class Book(Node):
    """Pairs of a key and a value in the order of their entry."""

    SHAPE = "book"

    def __init__(self):
        self._entries = {}

    @classmethod
    def of(cls, pairs):
        """Return a new Book with the pairs of one tuple."""
        if not are_pairs(pairs):
            raise InvalidValue(pairs)
        book = cls()
        for key, value in pairs:
            book.enter(key, value)
        return book

    @property
    def pairs(self):
        """The tuple of the pairs."""
        return tuple(self._entries.items())

    def enter(self, key, value):
        """Add a pair at the end."""
        require_key(key)
        if key in self._entries:
            raise KeyTaken(key)
        require_value(value)
        self._entries[key] = value

    def change(self, key, value):
        """Give a key that is there another value."""
        self._require_entry(key)
        require_value(value)
        self._entries[key] = value

    def value_of(self, key):
        """Return the value of a key."""
        self._require_entry(key)
        return self._entries[key]

    def _require_entry(self, key):
        require_key(key)
        if key not in self._entries:
            raise NoEntry(key)

    def _contents(self):
        return items_of_pairs(self.pairs)


class Bag(Node):
    """A fixed set of keys in ascending order, integers before texts."""

    SHAPE = "bag"

    def __init__(self, *members):
        self._entries = {}
        add_members(self, members)

    @classmethod
    def of(cls, members):
        """Return the Bag of the keys in one tuple."""
        if not isinstance(members, tuple):
            raise InvalidKey(members)
        return cls(*members)

    @property
    def members(self):
        """The ascending tuple of the keys."""
        return ascending(list(self._entries))

    def _contents(self):
        return self.members


class Thing(Node):
    """A brand, and fields in the order of their first setting."""

    SHAPE = "thing"

    def __init__(self, brand):
        if not is_free_brand(brand):
            raise InvalidBrand(brand)
        self._brand = brand
        self._entries = {}

    @property
    def brand(self):
        """The name of the class of the thing."""
        return self._brand

    @property
    def fields(self):
        """The tuple of the pairs of a label and a value."""
        return tuple(self._entries.items())

    def set_field(self, label, value):
        """Set a field, in its old place if it is there already."""
        require_label(label)
        require_value(value)
        self._entries[label] = value

    def field(self, label):
        """Return the value of a field."""
        require_label(label)
        if label not in self._entries:
            raise NoEntry(label)
        return self._entries[label]

    def _contents(self):
        return items_of_pairs(self.fields)


def is_atom_or_node(thing):
    """Tell whether thing can stand in the contents of a node."""
    return is_atom(thing) or isinstance(thing, Node)


def require_value(value):
    """Raise InvalidValue for what is no value."""
    if not is_atom_or_node(value):
        raise InvalidValue(value)


def require_values(parts):
    """Raise InvalidValue for the first of the parts that is no value."""
    for part in parts:
        require_value(part)


def require_tuple(parts):
    """Raise InvalidValue for what is no tuple."""
    if not isinstance(parts, tuple):
        raise InvalidValue(parts)


def require_key(key):
    """Raise InvalidKey for what is no key."""
    if not is_key(key):
        raise InvalidKey(key)


def require_label(label):
    """Raise InvalidKey for what is no label."""
    if not is_text(label):
        raise InvalidKey(label)


def are_pairs(pairs):
    """Tell whether pairs is a tuple of tuples of two items."""
    if not isinstance(pairs, tuple):
        return False
    return all([isinstance(pair, tuple) and len(pair) == 2 for pair in pairs])


def items_of_pairs(pairs):
    """Return the items of all pairs, one behind the other."""
    return [item for pair in pairs for item in pair]


def ascending(keys):
    """Return the tuple of the keys in ascending order, integers before texts."""
    # Python does not compare an integer and a text.
    integers = sorted([key for key in keys if is_integer(key)])
    texts = sorted([key for key in keys if is_text(key)])
    return (*integers, *texts)


def set_fields(thing, pairs):
    """Set a field of a thing for each pair, in its old place if it is there already."""
    for label, value in pairs:
        thing.set_field(label, value)


def add_members(bag, keys):
    """Add keys to a Bag; only making and loading one do this."""
    for key in keys:
        require_key(key)
        if key in bag._entries:
            raise KeyTaken(key)
        bag._entries[key] = True


def extend_node(node, contents):
    """Add values to a Row, pairs to a Book or keys to a Bag; only running a stream does this."""
    # They come from a stack, and were found to be values and keys before.
    if isinstance(node, Row):
        node._sequence.extend(contents)
    elif isinstance(node, Book):
        for key, value in contents:
            if key in node._entries:
                raise KeyTaken(key)
            node._entries[key] = value
    else:
        add_members(node, contents)


def shorten_node(node, contents):
    """Take back what was added last to a Row, a Book or a Bag."""
    if isinstance(node, Row):
        del node._sequence[len(node._sequence) - len(contents):]
    elif isinstance(node, Book):
        for key, _ in contents:
            del node._entries[key]
    else:
        for key in contents:
            del node._entries[key]


def holds_key(node, key):
    """Tell whether a key is in a Book or a Bag, or a label in a Thing."""
    return key in node._entries
