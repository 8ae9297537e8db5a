"""Points 20 and 21: what dump returns is right, has the least memo, and loads to the same graph."""

import random
import unittest

from brinejar.checking import check, traced
from brinejar.describing import described
from brinejar.dumping import dump
from brinejar.graphs import nodes_of, same_graph, twin_of
from brinejar.loading import load
from brinejar.nodes import Bag, Book, Octets, Pack, Row, Thing
from brinejar.registry import Registry
from tests.test_graphs import samples

ATOMS = (None, True, False, 0, 1, -1, 255, 256, 10 ** 299, "", "abc", "salt", "pepper", "a\n\\b", "a" * 300)
BRANDS = ("t", "shop.item")


def random_graph(chance, count):
    """Return a value of about so many nodes that contain each other as it comes."""
    changing = [chance.choice((Row(), Book(), Thing(chance.choice(BRANDS)))) for _ in range(count)]
    nodes = list(changing)
    for _ in range(count):
        kind = chance.randrange(4)
        if kind == 0:
            nodes.append(Octets(tuple(chance.randrange(256) for _ in range(chance.randrange(4)))))
        elif kind == 1:
            nodes.append(Bag(*chance.sample((1, 2, -300, "a", "salt", "pepper"), chance.randrange(5))))
        else:
            nodes.append(Pack(*[any_value(chance, nodes) for _ in range(chance.randrange(6))]))
    for node in changing:
        for number in range(chance.randrange(4)):
            value = any_value(chance, nodes)
            if isinstance(node, Row):
                node.put_last(value)
            elif isinstance(node, Book):
                node.enter(chance.choice((number, f"key{number}")), value)
            else:
                node.set_field(chance.choice(("n", "name", f"label{number}")), value)
    return chance.choice(nodes)


def any_value(chance, nodes):
    """Return one of the nodes or of the atoms."""
    return chance.choice(nodes) if chance.randrange(3) else chance.choice(ATOMS)


class RoundTripTests(unittest.TestCase):
    def assert_round_trip(self, value, registry):
        """Check all that points 20 and 21 say of the stream of a value."""
        twin = twin_of(value)
        for version in range(1, 5):
            stream = dump(value, registry, version=version)
            self.assertIsNone(check(stream, registry))
            self.assert_least_memo(stream, registry)
            self.assert_frames(stream, version)
            result = load(stream, registry)
            self.assertTrue(same_graph(result, value))
            self.assertFalse(set(nodes_of(result)) & set(nodes_of(value)))
            self.assertEqual(dump(result, registry, version=version), stream)
            self.assertEqual(dump(twin, registry, version=version), stream)

    def assert_least_memo(self, stream, registry):
        """Check that what is put is got, with the numbers 0, 1, 2 .. in the order of the puts."""
        put, got = [], set()
        sizes = {offset: size for offset, _, _, size in traced(stream, registry)}
        for offset, name, argument in described(stream):
            if name.startswith("put"):
                put.append(sizes[offset] - 1 if name == "put-next" else argument)
            elif name.startswith("get"):
                got.add(argument)
        self.assertEqual(put, list(range(len(put))))
        self.assertEqual(set(put), got)

    def assert_frames(self, stream, version):
        """Check that frames end as soon as they have 64 octets."""
        starts = [offset for offset, name, _ in described(stream)]
        frames = [(offset + 5, argument) for offset, name, argument in described(stream) if name == "frame"]
        self.assertEqual(bool(frames), version == 4)
        for number, (start, length) in enumerate(frames):
            last = max(offset for offset in starts if offset < start + length)
            self.assertLess(last - start, 64)
            if number + 1 < len(frames):
                self.assertGreaterEqual(length, 64)

    def test_samples(self):
        registry = Registry("t", "u", "a", "b")
        for value in samples():
            self.assert_round_trip(value, registry)

    def test_random_graphs(self):
        chance = random.Random(5)
        registry = Registry(*BRANDS)
        written = 0
        for _ in range(300):
            value = random_graph(chance, chance.randrange(1, 8))
            self.assert_round_trip(value, registry)
            written += 1
        self.assertEqual(written, 300)

    def test_two_values_have_equal_streams_exactly_if_they_are_the_same_graph(self):
        chance = random.Random(6)
        registry = Registry(*BRANDS, "u", "a", "b")
        values = samples() + [random_graph(chance, 2) for _ in range(60)] + [twin_of(value) for value in samples()]
        for version in range(1, 5):
            streams = [dump(value, registry, version=version) for value in values]
            for one, first in enumerate(values):
                for two, second in enumerate(values):
                    self.assertEqual(streams[one] == streams[two], same_graph(first, second))

    def test_300_nodes(self):
        chance = random.Random(9)
        rows = [Row() for _ in range(300)]
        for row in rows:
            for _ in range(3):
                row.put_last(chance.choice(rows[:40]) if chance.randrange(2) else chance.choice(ATOMS))
        value = Row(*rows)
        registry = Registry()
        for version in range(1, 5):
            stream = dump(value, registry, version=version)
            self.assertTrue(same_graph(load(stream), value))


if __name__ == "__main__":
    unittest.main()
