"""The rules of ../shared/LANGUAGE.md that can be read off the code of the package."""

import ast
import builtins
import pathlib
import unittest

PACKAGE = pathlib.Path(__file__).resolve().parent.parent / "brinejar"
FILES = sorted(path for path in PACKAGE.rglob("*") if "__pycache__" not in path.parts and path.is_file())
TREES = {path: ast.parse(path.read_text()) for path in FILES if path.suffix == ".py"}

LIBRARY = {
    "heapq": {"heappush", "heappop", "heapify", "heapreplace", "heappushpop"},
    "math": {"gcd", "lcm", "isqrt", "comb", "perm", "factorial"},
    "itertools": {"product", "combinations", "permutations", "chain", "accumulate", "pairwise", "islice",
                  "zip_longest"},
    "collections": {"defaultdict", "deque"},
}
BUILTINS = set("""
    len range enumerate zip min max sum abs sorted reversed int str bool list tuple dict set frozenset
    isinstance ord repr any all divmod pow getattr hasattr setattr iter next map super type property
    classmethod staticmethod Exception ValueError TypeError KeyError IndexError LookupError
    ZeroDivisionError ArithmeticError OverflowError RuntimeError NotImplementedError AttributeError
    StopIteration NotImplemented
""".split())
DOUBLE = set("""
    __init__ __eq__ __repr__ __str__ __len__ __enter__ __exit__ __call__ __iter__ __lt__ __le__ __gt__ __ge__
    __ne__ __contains__ __getitem__ __setitem__ __bool__
""".split())
ATTRIBUTES = {"count", "index", "title", "find", "get", "join", "lower", "upper", "split", "strip", "copy", "add"}


def found(kind):
    """Return the pairs of a path and a part of its tree that is of this kind."""
    return [(path, part) for path, tree in TREES.items() for part in ast.walk(tree) if isinstance(part, kind)]


def at(path, part):
    """Return where in the package a part stands."""
    return f"{path.name}:{getattr(part, 'lineno', 0)}"


class LanguageTests(unittest.TestCase):
    def test_files_and_characters(self):
        self.assertTrue(TREES)
        for path in FILES:
            self.assertRegex(path.name, r"\A[a-z0-9_]+\.py\Z")
            self.assertRegex(path.read_text(), r"\A[ -~\n]*\Z", path.name)
            self.assertNotRegex(path.name, r"\A(test|law_|conftest|site)")

    def test_sizes(self):
        for path in TREES:
            lines = path.read_text().split("\n")
            self.assertLess(len(lines), 400, path.name)
            self.assertLessEqual(max(map(len, lines)), 120, path.name)
        for path, part in found(ast.FunctionDef):
            self.assertLessEqual(part.end_lineno - part.lineno + 1, 40, at(path, part))

    def test_imports(self):
        self.assertEqual([at(*row) for row in found(ast.Import)], [])
        for path, part in found(ast.ImportFrom):
            names = {alias.name for alias in part.names}
            self.assertEqual((part.level, [alias.asname for alias in part.names if alias.asname]), (0, []))
            if part.module in LIBRARY:
                self.assertLessEqual(names, LIBRARY[part.module], at(path, part))
                continue
            self.assertRegex(part.module, r"\Abrinejar\.[a-z_]+\Z")
            source = TREES[PACKAGE / (part.module.split(".")[1] + ".py")]
            defined = {getattr(row, "name", None) for row in source.body}
            defined |= {row.targets[0].id for row in source.body if isinstance(row, ast.Assign)}
            self.assertLessEqual(names, defined, at(path, part))

    def test_module_level(self):
        for path, tree in TREES.items():
            for row in tree.body:
                doc = isinstance(row, ast.Expr) and isinstance(row.value, ast.Constant)
                plain = isinstance(row, ast.Assign) and len(row.targets) == 1
                kinds = (ast.ImportFrom, ast.FunctionDef, ast.ClassDef)
                self.assertTrue(doc or plain or isinstance(row, kinds), at(path, row))

    def test_values_at_module_level(self):
        for path, tree in TREES.items():
            for row in tree.body:
                if isinstance(row, ast.Assign):
                    inner = [part for part in ast.walk(row.value) if part is not row.value]
                    self.assertFalse([part for part in inner if isinstance(part, (ast.List, ast.Dict, ast.Call))],
                                     at(path, row))

    def test_properties_share_no_names(self):
        for path, part in found(ast.FunctionDef):
            if [row for row in part.decorator_list if ast.unparse(row) == "property"]:
                others = [other for _, other in found(ast.FunctionDef)
                          if other.name == part.name and not other.decorator_list]
                self.assertEqual(others, [], at(path, part))

    def test_sorted_takes_lists(self):
        for path, part in found(ast.Call):
            if ast.unparse(part.func) in ("sorted", "any", "all") and part.args:
                self.assertNotIsInstance(part.args[0], ast.GeneratorExp, at(path, part))
            self.assertNotEqual(getattr(part.func, "attr", ""), "sort", at(path, part))

    def test_decorators(self):
        for path, part in found((ast.FunctionDef, ast.ClassDef)):
            for decorator in part.decorator_list:
                word = ast.unparse(decorator)
                self.assertRegex(word, r"\A(property|classmethod|staticmethod|[a-z_]+\.setter)\Z", at(path, part))

    def test_statements_and_expressions(self):
        barred = (ast.AsyncFunctionDef, ast.Await, ast.AsyncFor, ast.AsyncWith, ast.Div, ast.Global)
        self.assertEqual([at(*row) for row in found(barred)], [])
        for path, part in found(ast.Constant):
            self.assertNotIsInstance(part.value, (float, complex), at(path, part))
        for path, part in found(ast.Compare):
            if any(isinstance(sign, (ast.Is, ast.IsNot)) for sign in part.ops):
                self.assertRegex(ast.unparse(part), r" is (not )?(None|True|False)\Z", at(path, part))
        for path, part in found(ast.BinOp):
            if isinstance(part.op, ast.Pow):
                self.assertIn(getattr(part.right, "value", None), range(65), at(path, part))

    def test_strings(self):
        for path, part in found(ast.Constant):
            if isinstance(part.value, str):
                self.assertNotIn("%", part.value, at(path, part))
                self.assertNotRegex(part.value, r"\._{1,2}\Z", at(path, part))
                self.assertNotRegex(part.value, r"\A__.*__\Z", at(path, part))

    def test_names(self):
        barred = {"_wall", "_cold", "_tuplegetter", "_outside", "_record", "_written_out", "_member_names"}
        for path in TREES:
            self.assertNotIn("_wall", path.read_text())
        for path, part in found((ast.FunctionDef, ast.Attribute, ast.Name, ast.arg, ast.ClassDef)):
            words = [getattr(part, field, None) for field in ("name", "attr", "id", "arg")]
            for word in (word for word in words if word):
                if word not in DOUBLE:
                    self.assertRegex(word, r"\A(_|_?[A-Za-z][A-Za-z0-9_]*)\Z", at(path, part))
                self.assertNotIn(word.rstrip("0123456789_"), barred, at(path, part))

    def test_builtins(self):
        for path, tree in TREES.items():
            bound = {part.id for part in ast.walk(tree) if isinstance(part, ast.Name)
                     and isinstance(part.ctx, ast.Store)}
            bound |= {part.arg for part in ast.walk(tree) if isinstance(part, ast.arg)}
            bound |= {part.name for part in tree.body if isinstance(part, (ast.FunctionDef, ast.ClassDef))}
            self.assertEqual([word for word in bound if hasattr(builtins, word)], [], path.name)
            used = {part.id for part in ast.walk(tree) if isinstance(part, ast.Name)}
            self.assertLessEqual({word for word in used if hasattr(builtins, word)}, BUILTINS, path.name)

    def test_variables_share_no_names_with_imports_and_classes(self):
        for path, tree in TREES.items():
            taken = {part.name for part in tree.body if isinstance(part, ast.ClassDef)}
            taken |= {alias.name for part in tree.body if isinstance(part, ast.ImportFrom) for alias in part.names}
            bound = {part.arg for part in ast.walk(tree) if isinstance(part, ast.arg)}
            bound |= {part.id for part in ast.walk(tree) if isinstance(part, ast.Name)
                      and isinstance(part.ctx, ast.Store)}
            self.assertEqual(taken & bound, set(), path.name)

    def test_words_that_are_not_used(self):
        barred = {"register", "mro", "elements", "open", "input", "law", "typing", "enum", "type", "exec", "eval"}
        compared = [side.func for _, part in found(ast.Compare) for side in (part.left, *part.comparators)
                    if isinstance(side, ast.Call) and len(part.ops) == 1]
        for path, part in found((ast.Name, ast.Attribute, ast.arg, ast.keyword, ast.FunctionDef, ast.Constant)):
            if part in compared and ast.unparse(part) == "type":
                continue
            words = [getattr(part, field, None) for field in ("id", "attr", "arg", "name", "value")]
            self.assertEqual([word for word in words if isinstance(word, str) and word in barred], [], at(path, part))

    def test_contexts_end_with_plain_assignments(self):
        for path, part in found(ast.FunctionDef):
            if part.name == "__exit__":
                rows = [row for row in ast.walk(part) if isinstance(row, ast.stmt) and row is not part]
                for row in rows:
                    self.assertIsInstance(row, (ast.Assign, ast.If), at(path, row))

    def test_generators_share_no_names(self):
        names = [part.name for _, part in found(ast.FunctionDef)]
        for path, part in found(ast.FunctionDef):
            if any(isinstance(row, (ast.Yield, ast.YieldFrom)) for row in ast.walk(part)):
                self.assertEqual(names.count(part.name), 1, at(path, part))

    def test_methods_and_attributes_share_no_names(self):
        methods = {row.name for _, part in found(ast.ClassDef) for row in part.body
                   if isinstance(row, ast.FunctionDef)}
        stored = {part.attr for _, part in found(ast.Attribute) if isinstance(part.ctx, ast.Store)}
        read = {part.attr for _, part in found(ast.Attribute)}
        values = {row.targets[0].id for _, part in found(ast.ClassDef) for row in part.body
                  if isinstance(row, ast.Assign)}
        self.assertEqual(methods & stored, set())
        taken = {word for made in (int, str, bytes, list, tuple, dict, set) for word in dir(made)}
        self.assertEqual(stored & taken - ATTRIBUTES, set())
        self.assertLessEqual(read, stored | methods | values | taken)


if __name__ == "__main__":
    unittest.main()
