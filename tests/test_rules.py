"""Those rules of ../shared/LANGUAGE.md that a few lines can check, for every file of the package."""

import ast
import builtins
import pathlib
import re
import unittest

FOLDER = pathlib.Path(__file__).resolve().parent.parent / "daywatches"
FILES = sorted(FOLDER.glob("*.py"))
LIBRARY = {
    "math": {"gcd", "lcm", "isqrt", "comb", "perm", "factorial"},
    # The others of this library are barred beside boards, which are iterated over and have a length.
    "itertools": {"chain", "accumulate", "pairwise", "islice", "zip_longest"},
}

# Words that stand in no file, but for comments and docstrings.
BARRED = {
    "typing", "enum", "Enum", "Generic", "Protocol", "ABC", "namedtuple", "NamedTuple", "dataclass", "overload",
    "contextmanager", "mro", "elements", "open", "input", "law", "register", "eval", "exec", "globals",
}


def bound_names(tree):
    """The names that a file gives to functions, classes, parameters and variables."""
    for node in ast.walk(tree):
        if isinstance(node, (ast.FunctionDef, ast.ClassDef)):
            yield node.name
        elif isinstance(node, ast.arg):
            yield node.arg
        elif isinstance(node, ast.Name) and isinstance(node.ctx, ast.Store):
            yield node.id


def trees():
    """The files of the package, parsed."""
    return [ast.parse(path.read_text("ascii"), path.name) for path in FILES]


class RulesTest(unittest.TestCase):
    def test_the_folder_holds_sources_only(self):
        self.assertIn(FOLDER / "__init__.py", FILES)
        for path in FOLDER.iterdir():
            if path.name != "__pycache__":
                self.assertRegex(path.name, r"\A[a-z0-9_]+\.py\Z")

    def test_lines_and_characters(self):
        for path in FILES:
            with self.subTest(path.name):
                text = path.read_bytes().decode("ascii")
                self.assertLessEqual(len(text.splitlines()), 399)
                self.assertLessEqual(max(map(len, text.splitlines())), 120)
                self.assertIsNone(re.search(r"[^\n -~]", text))

    def test_functions_are_short(self):
        for tree in trees():
            for node in ast.walk(tree):
                if isinstance(node, ast.FunctionDef):
                    self.assertLessEqual(node.end_lineno - node.lineno + 1, 40, node.name)

    def test_imports(self):
        for tree in trees():
            self.assertFalse([node for node in ast.walk(tree) if isinstance(node, ast.Import)])
            for node in ast.walk(tree):
                if not isinstance(node, ast.ImportFrom):
                    continue
                self.assertIn(node, tree.body)
                self.assertEqual(node.level, 0)
                names = {alias.name for alias in node.names}
                if node.module in LIBRARY:
                    self.assertLessEqual(names, LIBRARY[node.module])
                else:
                    self.assertRegex(node.module, r"\Adaywatches\.[a-z_]+\Z")
                self.assertFalse([alias for alias in node.names if alias.asname])

    def test_no_name_is_a_builtin(self):
        for tree in trees():
            for name in bound_names(tree):
                self.assertNotIn(name, dir(builtins))

    def test_exponents(self):
        for tree in trees():
            for node in ast.walk(tree):
                if isinstance(node, ast.BinOp) and isinstance(node.op, ast.Pow):
                    self.assertIn(node.right.value, range(65))

    def test_strings(self):
        for tree in trees():
            docs = {ast.get_docstring(node, False) for node in ast.walk(tree)
                    if isinstance(node, (ast.Module, ast.ClassDef, ast.FunctionDef))}
            for node in ast.walk(tree):
                if isinstance(node, ast.Constant) and isinstance(node.value, str) and node.value not in docs:
                    self.assertNotIn("%", node.value)
                    self.assertFalse(node.value.startswith("__"))

    def test_barred_names(self):
        for tree in trees():
            for node in ast.walk(tree):
                for name in (getattr(node, "id", None), getattr(node, "attr", None), getattr(node, "arg", None),
                             getattr(node, "name", None)):
                    self.assertNotIn(name, BARRED)

    def test_barred_statements(self):
        barred = (
            ast.Global, ast.Nonlocal, ast.AsyncFunctionDef, ast.Await, ast.AsyncFor, ast.AsyncWith, ast.Yield,
            ast.YieldFrom, ast.GeneratorExp, ast.Set,
        )
        for tree in trees():
            for node in ast.walk(tree):
                self.assertNotIsInstance(node, barred)
                if isinstance(node, ast.ExceptHandler):
                    self.assertIn(node.type.id, {"WatchError"})
                if isinstance(node, ast.Call) and isinstance(node.func, ast.Name) and node.func.id in ("any", "all"):
                    self.assertNotIsInstance(node.args[0], ast.GeneratorExp)
                if isinstance(node, ast.Call) and isinstance(node.func, ast.Attribute):
                    self.assertNotIn(node.func.attr, {"sort", "format", "discard"})

    def test_words_beside_getitem(self):
        for path in FILES:
            for word in ("(type)", "Meta", "metaclass="):
                self.assertNotIn(word, path.read_text("ascii"))

    def test_no_floats(self):
        for tree in trees():
            for node in ast.walk(tree):
                self.assertFalse(isinstance(node, ast.Constant) and isinstance(node.value, (float, complex)))
                self.assertNotIsInstance(node, ast.Div)


if __name__ == "__main__":
    unittest.main()
