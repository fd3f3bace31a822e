"""The form of the files of the package: sizes, signs, imports."""

import ast
import pathlib
import unittest

import caseshome

FOLDER = pathlib.Path(caseshome.__file__).parent
LIBRARY = {"__future__", "heapq", "math", "itertools", "collections"}


class Form(unittest.TestCase):
    def setUp(self):
        self.files = sorted(FOLDER.glob("*.py"))

    def test_sizes_and_signs(self):
        for path in self.files:
            text = path.read_bytes().decode("utf-8")
            rows = text.split("\n")
            self.assertLessEqual(len(rows), 400, path.name)
            self.assertLessEqual(max(len(row) for row in rows), 120, path.name)
            self.assertTrue(all(sign == "\n" or " " <= sign <= "~" for sign in text), path.name)

    def test_functions(self):
        for path in self.files:
            for node in ast.walk(ast.parse(path.read_text())):
                if isinstance(node, (ast.FunctionDef, ast.AsyncFunctionDef)):
                    self.assertLessEqual(node.end_lineno - node.lineno + 1, 40, (path.name, node.name))

    def test_imports(self):
        for path in self.files:
            for node in ast.walk(ast.parse(path.read_text())):
                if path.name != "__main__.py":
                    self.assertNotIsInstance(node, ast.Import, path.name)
                if isinstance(node, ast.ImportFrom):
                    self.assertEqual(node.level, 0, path.name)
                    self.assertIn(node.module.split(".")[0], LIBRARY | {"caseshome"}, path.name)

    def test_no_fractions_of_the_machine(self):
        for path in self.files:
            for node in ast.walk(ast.parse(path.read_text())):
                self.assertNotIsInstance(node, (ast.Div, ast.AsyncFunctionDef), path.name)
                if isinstance(node, ast.Constant):
                    self.assertNotIsInstance(node.value, (float, complex), path.name)


if __name__ == "__main__":
    unittest.main()
