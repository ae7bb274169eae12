"""Tests that the package keeps the rules of the small language that can be read off its files."""

import ast
import builtins
import re
import unittest
from pathlib import Path

PACKAGE = Path(__file__).resolve().parent.parent / "luckwright"
LIBRARY = {
    "math": ("gcd", "lcm", "isqrt", "comb", "perm", "factorial"),
    "heapq": ("heappush", "heappop", "heapify", "heapreplace", "heappushpop"),
    "collections": ("defaultdict", "deque"),
    "itertools": ("product", "combinations", "permutations", "chain", "accumulate", "pairwise", "islice",
                  "zip_longest"),
}
BUILTINS = """len range enumerate zip min max sum abs sorted reversed int str bool list tuple dict set isinstance ord
    repr any all divmod map iter next ValueError KeyError IndexError""".split()
METHODS = "__init__ __eq__ __repr__ __str__ __len__ __enter__ __exit__ __call__ __iter__".split()
BARRED = (ast.AsyncFunctionDef, ast.Global, ast.Div, ast.MatMult, ast.NamedExpr, ast.AnnAssign, ast.With,
          ast.Yield, ast.YieldFrom, ast.Await, ast.Set, ast.SetComp, ast.GeneratorExp)


def trees():
    """Return (file, text, tree) of each file of the package."""
    paths = sorted(PACKAGE.glob("*.py"))
    return [(path, path.read_text(), ast.parse(path.read_text())) for path in paths]


def nodes(kind):
    """Return (place, node) for all nodes of a kind in the package."""
    return [(f"{path.name}:{node.lineno}", node) for path, text, tree in trees()
            for node in ast.walk(tree) if isinstance(node, kind)]


def own_names(tree):
    """Return the names of a file's imports and classes, then those that its functions bind."""
    outer = [alias.name for node in tree.body if isinstance(node, ast.ImportFrom) for alias in node.names]
    outer.extend(node.name for node in tree.body if isinstance(node, ast.ClassDef))
    inner = [node.arg for node in ast.walk(tree) if isinstance(node, ast.arg)]
    inner.extend(node.id for node in ast.walk(tree) if isinstance(node, ast.Name) and isinstance(node.ctx, ast.Store))
    return outer, inner


class LanguageTest(unittest.TestCase):
    def test_files(self):
        names = [path.name for path in PACKAGE.iterdir() if path.name != "__pycache__"]
        self.assertIn("__init__.py", names)
        for name in names:
            self.assertRegex(name, r"^(__init__|__main__|[a-z][a-z0-9_]*)\.py$")

    def test_signs_and_lengths(self):
        for path, text, tree in trees():
            self.assertEqual(re.findall(r"[^\n -~]", text), [], path.name)
            rows = text.splitlines()
            self.assertLessEqual(len(rows), 399, path.name)
            self.assertLessEqual(max(len(row) for row in rows), 120, path.name)

    def test_lengths_of_functions(self):
        for place, node in nodes(ast.FunctionDef):
            self.assertLessEqual(node.end_lineno - node.lineno + 1, 40, place)
            self.assertTrue(ast.get_docstring(node) or node.name == "__init__", place)
            self.assertEqual(node.decorator_list, [], place)

    def test_imports(self):
        self.assertEqual(nodes(ast.Import), [])
        for place, node in nodes(ast.ImportFrom):
            names = [alias.name for alias in node.names]
            self.assertEqual([alias.asname for alias in node.names], [None] * len(names), place)
            if node.module in LIBRARY:
                self.assertTrue(all(name in LIBRARY[node.module] for name in names), place)
            else:
                self.assertRegex(node.module, r"^luckwright\.[a-z_]+$", place)
                path = PACKAGE / (node.module.partition(".")[2] + ".py")
                for name in names:
                    self.assertRegex(path.read_text(), rf"(?m)^((def|class) {name}\b|{name} =)", place)

    def test_module_level(self):
        for path, text, tree in trees():
            for node in tree.body[1:]:
                kinds = (ast.ImportFrom, ast.FunctionDef, ast.ClassDef, ast.Assign)
                self.assertIsInstance(node, kinds, path.name)

    def test_barred_kinds(self):
        self.assertEqual([place for place, node in nodes(BARRED)], [])
        self.assertEqual([place for place, node in nodes(ast.Constant) if isinstance(node.value, float)], [])

    def test_only_own_errors_are_caught(self):
        own = [node.name for node in ast.parse((PACKAGE / "errors.py").read_text()).body
               if isinstance(node, ast.ClassDef)]
        for place, node in nodes(ast.Try):
            self.assertEqual(node.finalbody, [], place)
            for handler in node.handlers:
                self.assertIsInstance(handler.type, ast.Name, place)
                self.assertIn(handler.type.id, own, place)

    def test_exponents_are_written_out(self):
        for place, node in nodes(ast.BinOp):
            if isinstance(node.op, ast.Pow):
                self.assertIsInstance(node.right, ast.Constant, place)
                self.assertIn(node.right.value, range(65), place)

    def test_no_name_means_two_things(self):
        for path, text, tree in trees():
            outer, inner = own_names(tree)
            defs = [node.name for node in tree.body if isinstance(node, (ast.FunctionDef, ast.ClassDef))]
            self.assertEqual([name for name in inner if name in outer], [], path.name)
            self.assertEqual([name for name in inner + outer + defs if hasattr(builtins, name)], [], path.name)
            self.assertEqual(len(defs), len(list(dict.fromkeys(defs))), path.name)

    def test_one_lambda_on_a_line(self):
        places = [place for place, node in nodes(ast.Lambda)]
        self.assertEqual(len(places), len(set(places)))

    def test_builtins(self):
        for place, node in nodes(ast.Name):
            if hasattr(builtins, node.id):
                self.assertIn(node.id, BUILTINS, place)

    def test_two_underscores(self):
        for place, node in nodes(ast.FunctionDef):
            self.assertTrue(node.name in METHODS or not node.name.startswith("__"), place)
        for place, node in nodes(ast.Attribute):
            self.assertFalse(node.attr.startswith("__") and node.attr != "__init__", place)

    def test_strings(self):
        for path, text, tree in trees():
            bare = [node.value.value for node in ast.walk(tree) if isinstance(node, ast.Expr)
                    and isinstance(node.value, ast.Constant)]
            words = [node.value for node in ast.walk(tree) if isinstance(node, ast.Constant)
                     and isinstance(node.value, str) and node.value not in bare]
            self.assertEqual([word for word in words if "%" in word or "type" in word], [], path.name)
