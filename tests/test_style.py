"""What can be read off the package's files without running them."""

import ast
import builtins
import pathlib
import re
import unittest

PACKAGE = pathlib.Path(__file__).resolve().parent.parent / "uplines"
PLAIN = re.compile("[a-z][a-z0-9_]*[.]py|__init__[.]py")
LET = {
    "len", "range", "enumerate", "zip", "min", "max", "sum", "abs", "sorted", "reversed", "int", "str", "bool",
    "list", "tuple", "dict", "set", "isinstance", "ord", "repr", "any", "all", "divmod", "iter", "next",
    "super", "classmethod", "staticmethod", "property",
}


def files():
    return [path for path in sorted(PACKAGE.rglob("*")) if "__pycache__" not in path.parts]


def trees():
    return [(path.name, ast.parse(path.read_text())) for path in files()]


class StyleTests(unittest.TestCase):
    def test_files(self):
        self.assertIn(PACKAGE / "__init__.py", files())
        for path in files():
            self.assertTrue(path.is_file() and PLAIN.fullmatch(path.name), path)

    def test_plain_characters(self):
        for path in files():
            for code in path.read_bytes():
                self.assertTrue(code == 10 or 32 <= code <= 126, f"{path.name}: {code}")

    def test_lengths(self):
        for path in files():
            rows = path.read_text().split("\n")
            self.assertEqual(rows[-1], "", f"{path.name} ends with a line feed")
            self.assertLessEqual(len(rows) - 1, 399, path.name)
            for number, row in enumerate(rows, 1):
                self.assertLessEqual(len(row), 120, f"{path.name}, {number}")
                self.assertEqual(row, row.rstrip(), f"{path.name}, {number}")

    def test_functions(self):
        for name, tree in trees():
            for node in ast.walk(tree):
                if isinstance(node, (ast.FunctionDef, ast.AsyncFunctionDef)):
                    first = min([node.lineno] + [over.lineno for over in node.decorator_list])
                    self.assertLessEqual(node.end_lineno - first + 1, 40, f"{name}, {node.name}")

    def test_imports(self):
        for name, tree in trees():
            for node in ast.walk(tree):
                self.assertNotIsInstance(node, ast.Import, name)
                if isinstance(node, ast.ImportFrom):
                    self.assertIn(node, tree.body, name)
                    self.assertEqual(node.level, 0, name)
                    self.assertRegex(node.module, "^uplines[.][a-z][a-z0-9_]*$", name)
                    for word in node.names:
                        self.assertIsNone(word.asname)
                        self.assertNotEqual(word.name, "*")

    def test_whole_numbers(self):
        for name, tree in trees():
            for node in ast.walk(tree):
                self.assertNotIsInstance(node, ast.Div, name)
                if isinstance(node, ast.Constant):
                    self.assertNotIsInstance(node.value, (float, complex), f"{name}, {node.lineno}")

    def test_builtins(self):
        for name, tree in trees():
            for node in ast.walk(tree):
                # Doctest leaves an underscore among the builtins.
                if isinstance(node, ast.Name) and hasattr(builtins, node.id) and node.id != "_":
                    held = getattr(builtins, node.id)
                    is_error = isinstance(held, type) and issubclass(held, Exception)
                    self.assertTrue(node.id in LET or is_error, f"{name}, {node.id}")


if __name__ == "__main__":
    unittest.main()
