"""What the document promises over the whole program, and that the modules are as its interface lists them."""

import importlib
import inspect
import pathlib
import random
import unittest

from brinejar.checking import check, is_right, version_of
from brinejar.converting import converted, is_canonical
from brinejar.desk import Desk
from brinejar.dumping import dump
from brinejar.graphs import nodes_of, same_graph, twin_of
from brinejar.hexes import read_stream, stream_text
from brinejar.jars import Jar
from brinejar.loading import load
from brinejar.makers import Fields, Parts, Refill, Whole
from brinejar.nodes import Node, Octets, Pack, Row, Thing
from brinejar.notation import graph_text, read_graph
from brinejar.optimizing import is_optimal, optimized
from brinejar.registry import Registry
from brinejar.sessions import Reader, Writer
from tests.test_graphs import samples, small_graphs
from tests.test_makers import thing_with
from tests.test_round_trips import BRANDS, random_graph

VERSIONS = (1, 2, 3, 4)
# The names of the interface, module by module, as the document lists them.
INTERFACE = {
    "nodes": {"Node": "shape children", "Octets": "numbers", "Pack": "parts of", "Row": "parts of put_last put_at",
              "Book": "pairs of enter change value_of", "Bag": "members of", "Thing": "brand fields set_field field"},
    "graphs": {"is_value": "", "nodes_of": "", "same_graph": "", "twin_of": ""},
    "opcodes": {"opcode_names": "", "number_of": "", "name_of": "", "since": ""},
    "registry": {"Registry": "allow enter forget takes_of brands __contains__ __len__ twin"},
    "makers": {"Fields": "__call__", "Single": "__call__", "Parts": "__call__", "Whole": "__call__",
               "Refill": "__call__"},
    "dumping": {"dump": ""}, "loading": {"load": ""},
    "checking": {"version_of": "", "check": "", "is_right": "", "traced": ""},
    "describing": {"described": "", "assembled": ""}, "optimizing": {"optimized": "", "is_optimal": ""},
    "converting": {"is_canonical": "", "converted": ""},
    "sessions": {"Writer": "write memo_size clear_memo", "Reader": "read memo_size clear_memo"},
    "jars": {"Jar": "put take drop convert undo stream_of names version total changes twin"},
    "batches": {"Batch": "__enter__ __exit__", "batched": "", "batched_all": ""},
    "notation": {"graph_text": "", "read_graph": ""}, "hexes": {"stream_text": "", "read_stream": ""},
    "desk": {"Desk": "execute execute_all jar_twin"},
}


def graphs(seed, count):
    """Return many values, among them random ones."""
    chance = random.Random(seed)
    return samples() + [random_graph(chance, chance.randrange(1, 10)) for _ in range(count)]


def known():
    """Return a registry of the brands of these values."""
    return Registry(*BRANDS, "u", "a", "b")


class FactTests(unittest.TestCase):
    def test_streams_of_dump_are_right_canonical_and_optimal(self):
        for value in graphs(41, 150):
            for version in VERSIONS:
                stream = dump(value, known(), version=version)
                self.assertEqual(version_of(stream), version)
                self.assertIsNone(check(stream, known()))
                for told in (is_right, is_canonical, is_optimal):
                    self.assertIs(told(stream, known()), True)
                self.assertEqual(optimized(stream, known()), stream)

    def test_converting_from_version_to_version_and_back(self):
        for value in graphs(42, 80):
            streams = [dump(value, known(), version=version) for version in VERSIONS]
            for stream in streams:
                for version in VERSIONS:
                    other = converted(stream, version, known())
                    self.assertEqual(other, streams[version - 1])
                    self.assertEqual(converted(other, version_of(stream), known()), stream)

    def test_all_ways_give_the_same_graph(self):
        for value in graphs(43, 150):
            writer, reader = Writer(known()), Reader(known())
            results = [load(dump(value, known(), version=version), known()) for version in VERSIONS]
            results += [read_graph(graph_text(value)), twin_of(value), reader.read(writer.write(value)),
                        reader.read(writer.write(value))]
            for result in results:
                self.assertTrue(same_graph(result, value))
                self.assertFalse(set(nodes_of(result)) & set(nodes_of(value)))
                self.assertEqual(graph_text(result), graph_text(value))

    def assert_told_apart(self, values):
        """Check that equal streams and equal texts mean the same graph."""
        texts = [graph_text(value) for value in values]
        streams = {version: [dump(value, known(), version=version) for value in values] for version in VERSIONS}
        for one, first in enumerate(values):
            for two, second in enumerate(values):
                same = same_graph(first, second)
                self.assertEqual(texts[one] == texts[two], same)
                for version in VERSIONS:
                    self.assertEqual(streams[version][one] == streams[version][two], same)

    def test_equal_streams_and_equal_texts(self):
        self.assert_told_apart(graphs(44, 60) + [twin_of(value) for value in graphs(44, 20)])
        self.assert_told_apart(list(small_graphs())[::5])

    def test_entered_things_and_outside_values(self):
        registry = Registry("a")
        registry.enter("t", Fields("t", "x"), Parts("x"), takes=1)
        registry.enter("u", Fields("u"), Whole(), build=Refill())
        outer = Octets((1, 2))
        own = thing_with("u", ("n", 1), ("outer", outer))
        own.set_field("self", own)
        value = Row(own, thing_with("t", ("x", Pack(own, outer))), outer, thing_with("a", ("salt", "salt")))
        streams = [dump(value, registry, version=version, outside=lambda node: "outer" if node == outer else None)
                   for version in VERSIONS]
        for stream in streams:
            self.assertIs(is_right(stream, registry, has_outside=True), True)
            self.assertIs(is_canonical(stream, registry, has_outside=True), True)
            self.assertIs(is_optimal(stream, registry, has_outside=True), True)
            self.assertTrue(same_graph(load(stream, registry, outside=lambda label: outer), value))
            for version in VERSIONS:
                self.assertEqual(converted(stream, version, registry, has_outside=True), streams[version - 1])

    def test_what_jars_and_desks_keep_is_what_dump_returns(self):
        jar, desk = Jar(known()), Desk()
        for brand in known().brands:
            desk.execute(f"allow {brand}")
        for value in graphs(45, 60):
            jar.put("x", value)
            self.assertEqual(desk.execute(f"put x {graph_text(value)}"), "done")
            for version in VERSIONS:
                jar.convert(version)
                desk.execute(f"convert {version}")
                stream = dump(value, known(), version=version)
                self.assertEqual((jar.stream_of("x"), read_stream(desk.execute("hex x"))), (stream, stream))
                self.assertEqual(desk.execute(f"check {stream_text(stream)}"), "right")
                self.assertEqual(desk.execute(f"load y {stream_text(stream)}"), "done")
                self.assertEqual(desk.execute("same x y"), "yes")
            self.assertEqual(desk.execute("show y"), graph_text(value))

    def test_functions_do_not_change_their_arguments(self):
        for value in graphs(46, 60):
            registry, before = known(), graph_text(value)
            stream = dump(value, registry)
            for _ in range(2):
                Writer(registry).write(value)
                Jar(registry).put("x", value)
                twin_of(value)
            load(stream, registry)
            converted(stream, 1, registry)
            optimized(stream, registry)
            self.assertEqual((graph_text(value), registry.brands), (before, known().brands))


class InterfaceTests(unittest.TestCase):
    def test_each_name_is_defined_in_its_module(self):
        for module, names in INTERFACE.items():
            loaded = importlib.import_module(f"brinejar.{module}")
            for name, members in names.items():
                made = getattr(loaded, name)
                self.assertEqual(made.__module__, f"brinejar.{module}")
                self.assertEqual(inspect.isclass(made), bool(members))
                for member in members.split():
                    self.assertIn(member, vars(made), f"{name}.{member}")

    def test_every_module_is_named_in_the_readme(self):
        text = (pathlib.Path(__file__).resolve().parent.parent / "README.md").read_text()
        for path in pathlib.Path(inspect.getfile(Node)).parent.glob("[a-z]*.py"):
            self.assertTrue(f"`brinejar.{path.stem}`" in text or f"`{path.stem}`" in text, path.stem)

    def test_parameters_after_a_star_are_named(self):
        with self.assertRaises(TypeError):
            dump(Thing("t"), None, 4)
        with self.assertRaises(TypeError):
            Writer(None, 4)
        with self.assertRaises(TypeError):
            Reader(None, None)


if __name__ == "__main__":
    unittest.main()
