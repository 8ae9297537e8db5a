"""Graphs of values: walking, comparing and copying them, to any depth."""

from brinejar.atoms import same_atom
from brinejar.nodes import Bag, Book, Node, Octets, Pack, Row, Thing
from brinejar.nodes import is_atom_or_node, require_value


def is_value(thing):
    """Tell whether thing is an atom or a node."""
    return is_atom_or_node(thing)


def is_pack(value):
    """Tell whether a value is a Pack, or stands for one that is not made yet."""
    return isinstance(value, Node) and value.shape == "pack"


def nodes_of(value):
    """Yield all nodes of the graph, each once, depth first, a node before its contents."""
    require_value(value)
    met = {}
    waiting = [value] if isinstance(value, Node) else []
    while waiting:
        node = waiting.pop()
        # A node can wait in several places; the first one that comes up counts.
        if node not in met:
            met[node] = True
            yield node
            inner = [child for child in node.children() if isinstance(child, Node)]
            waiting.extend(inner[::-1])


class Relation:
    """A one-to-one relation of nodes, with the related nodes whose contents are not compared yet."""

    def __init__(self):
        self.waiting = []
        self._forth = {}
        self._back = {}

    def relate(self, one, other):
        """Relate two values; return False if they cannot be related."""
        if not isinstance(one, Node) or not isinstance(other, Node):
            # A node is never equal to an atom.
            return same_atom(one, other)
        if one in self._forth or other in self._back:
            return self._forth.get(one) == other
        if not are_alike(one, other):
            return False
        self._forth[one] = other
        self._back[other] = one
        self.waiting.append((one, other))
        return True

    def relate_contents(self, node, other):
        """Relate the contents of two nodes; return False if they cannot be related."""
        ours = list(node.children())
        theirs = list(other.children())
        if len(ours) != len(theirs):
            return False
        for one, another in zip(ours, theirs):
            if not self.relate(one, another):
                return False
        return True


def same_graph(first, second):
    """Tell whether two values are the same graph."""
    require_value(first)
    require_value(second)
    relation = Relation()
    if not relation.relate(first, second):
        return False
    while relation.waiting:
        node, other = relation.waiting.pop()
        if not relation.relate_contents(node, other):
            return False
    return True


def are_alike(node, other):
    """Tell whether two nodes agree in all but their contents."""
    if node.shape != other.shape:
        return False
    if isinstance(node, Octets):
        return node.numbers == other.numbers
    if isinstance(node, Thing):
        return node.brand == other.brand
    return True


def twin_of(value):
    """Return a value with the same graph, made of new nodes."""
    nodes = list(nodes_of(value))
    twins = {}
    # Rings go through nodes that can be filled later, so these come before the Packs.
    for node in nodes:
        if not is_pack(node):
            twins[node] = bare_twin(node)
    for node in nodes:
        if is_pack(node):
            make_pack_twins(node, twins)
    for node in nodes:
        fill_twin(node, twins)
    return twins.get(value, value)


def bare_twin(node):
    """Return a new node like one that is no Pack, empty if it can be filled later."""
    if isinstance(node, Octets):
        return Octets(node.numbers)
    if isinstance(node, Bag):
        return Bag.of(node.members)
    if isinstance(node, Thing):
        return Thing(node.brand)
    if isinstance(node, Book):
        return Book()
    return Row()


def make_pack_twins(pack, twins):
    """Make the twins of a Pack and of the Packs within it that have none yet, the innermost first."""
    waiting = [pack]
    while waiting:
        last = waiting[-1]
        missing = [part for part in last.parts if is_pack(part) and part not in twins]
        if missing:
            waiting.extend(missing)
        else:
            waiting.pop()
            # A Pack waits once for each place that it has in another one.
            if last not in twins:
                twins[last] = Pack.of(tuple(twins_of_parts(last.parts, twins)))


def twins_of_parts(parts, twins):
    """Return the list of the parts with twins in the places of nodes."""
    return [twins.get(part, part) for part in parts]


def twins_of_pairs(pairs, twins):
    """Return the list of the pairs with twins in the places of nodes."""
    return [(key, twins.get(value, value)) for key, value in pairs]


def fill_twin(node, twins):
    """Put the twins of the contents into the twin of a Row, a Book or a Thing."""
    twin = twins[node]
    if isinstance(node, Row):
        for part in twins_of_parts(node.parts, twins):
            twin.put_last(part)
    elif isinstance(node, Book):
        for key, value in twins_of_pairs(node.pairs, twins):
            twin.enter(key, value)
    elif isinstance(node, Thing):
        for label, value in twins_of_pairs(node.fields, twins):
            twin.set_field(label, value)
