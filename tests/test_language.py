"""Some of the rules of the language that the package keeps, as far as a test can see them."""

import ast
import unittest
from pathlib import Path

FOLDER = Path(__file__).resolve().parent.parent / "namedmoments"
LIBRARY = ("heapq", "math")


class Language(unittest.TestCase):

    def files(self):
        found = sorted(FOLDER.rglob("*.py"))
        self.assertIn(FOLDER / "__init__.py", found)
        return [(path.name, path.read_text(encoding="utf-8")) for path in found]

    def test_sizes_and_characters(self):
        for name, text in self.files():
            lines = text.split("\n")
            self.assertLessEqual(len(lines), 399, name)
            for line in lines:
                self.assertLessEqual(len(line), 120, (name, line))
                self.assertTrue(all(" " <= sign <= "~" for sign in line), (name, line))

    def test_functions_are_small(self):
        for name, text in self.files():
            for node in ast.walk(ast.parse(text)):
                if isinstance(node, ast.FunctionDef):
                    self.assertLessEqual(node.end_lineno - node.lineno + 1, 40, (name, node.name))

    def test_imports(self):
        for name, text in self.files():
            for node in ast.walk(ast.parse(text)):
                self.assertNotIsInstance(node, ast.Import, name)
                if isinstance(node, ast.ImportFrom):
                    own = node.module.startswith("namedmoments.")
                    self.assertTrue(own or node.module in LIBRARY, (name, node.module))
                    self.assertEqual(node.level, 0, name)

    def test_neither_floats_nor_their_division(self):
        for name, text in self.files():
            for node in ast.walk(ast.parse(text)):
                self.assertNotIsInstance(node, ast.Div, name)
                if isinstance(node, ast.Constant):
                    self.assertNotIsInstance(node.value, (float, complex), name)


if __name__ == "__main__":
    unittest.main()
