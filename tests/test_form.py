"""The form of the files of the package: sizes, signs, imports."""

import ast
import pathlib
import unittest

import caseshome

FOLDER = pathlib.Path(caseshome.__file__).parent
LIBRARY = {"__future__", "heapq", "math", "itertools", "collections"}


class Form(unittest.TestCase):
    def setUp(self):
        self.files = sorted(FOLDER.glob("*.py"))

    def test_sizes_and_signs(self):
        for path in self.files:
            text = path.read_bytes().decode("utf-8")
            rows = text.split("\n")
            self.assertLessEqual(len(rows), 400, path.name)
            self.assertLessEqual(max(len(row) for row in rows), 120, path.name)
            self.assertTrue(all(sign == "\n" or " " <= sign <= "~" for sign in text), path.name)

    def test_functions(self):
        for path in self.files:
            for node in ast.walk(ast.parse(path.read_text())):
                if isinstance(node, (ast.FunctionDef, ast.AsyncFunctionDef)):
                    self.assertLessEqual(node.end_lineno - node.lineno + 1, 40, (path.name, node.name))

    def test_imports(self):
        for path in self.files:
            for node in ast.walk(ast.parse(path.read_text())):
                if path.name != "__main__.py":
                    self.assertNotIsInstance(node, ast.Import, path.name)
                if isinstance(node, ast.ImportFrom):
                    self.assertEqual(node.level, 0, path.name)
                    self.assertIn(node.module.split(".")[0], LIBRARY | {"caseshome"}, path.name)

    def test_no_files_that_import_from_each_other(self):
        ahead = {}
        for path in self.files:
            modules = [node.module for node in ast.walk(ast.parse(path.read_text())) if isinstance(node, ast.ImportFrom)]
            ahead[path.stem] = {module.split(".")[1] for module in modules if module.startswith("caseshome.")}
        while ahead:
            free = [name for name in ahead if not ahead[name]]
            self.assertNotEqual(free, [], ahead)
            ahead = {name: needed - set(free) for name, needed in ahead.items() if name not in free}

    def test_names_are_defined_where_they_are_imported_from(self):
        own = {path.stem: [node.name for node in ast.parse(path.read_text()).body if hasattr(node, "name")]
               + [target.id for node in ast.parse(path.read_text()).body if isinstance(node, ast.Assign) for target in node.targets]
               for path in self.files}
        for path in self.files:
            for node in ast.walk(ast.parse(path.read_text())):
                if isinstance(node, ast.ImportFrom) and node.module.startswith("caseshome."):
                    for name in node.names:
                        self.assertIn(name.name, own[node.module.split(".")[1]], path.name)
                        self.assertIsNone(name.asname, path.name)

    def test_module_level(self):
        for path in self.files:
            names = []
            for node in ast.parse(path.read_text()).body:
                self.assertIsInstance(node, (ast.ImportFrom, ast.FunctionDef, ast.ClassDef, ast.Assign, ast.Expr), path.name)
                if isinstance(node, ast.Assign):
                    names += [target.id for target in node.targets]
                    for part in ast.walk(node.value):
                        self.assertNotIsInstance(part, (ast.Call, ast.BinOp, ast.comprehension), path.name)
                        if part is not node.value:
                            self.assertNotIsInstance(part, (ast.List, ast.Dict, ast.Set), path.name)
                elif isinstance(node, (ast.FunctionDef, ast.ClassDef)):
                    self.assertEqual(node.decorator_list, [], path.name)
                    names.append(node.name)
                elif isinstance(node, ast.ImportFrom):
                    names += [name.name for name in node.names]
            self.assertEqual(len(names), len(set(names)), path.name)

    def test_words_that_are_not_used(self):
        for path in self.files:
            for node in ast.walk(ast.parse(path.read_text())):
                self.assertNotIsInstance(node, (ast.GeneratorExp, ast.Lambda, ast.NamedExpr, ast.Yield, ast.Global, ast.With), path.name)
                if isinstance(node, ast.Name) and isinstance(node.ctx, ast.Load):
                    self.assertNotIn(node.id, ("print", "chr", "eval", "exec", "open", "input", "hash", "id", "filter", "round", "float"), path.name)
                if isinstance(node, ast.Constant) and isinstance(node.value, str):
                    self.assertNotIn("%", node.value, path.name)

    def test_no_fractions_of_the_machine(self):
        for path in self.files:
            for node in ast.walk(ast.parse(path.read_text())):
                self.assertNotIsInstance(node, (ast.Div, ast.AsyncFunctionDef), path.name)
                if isinstance(node, ast.Constant):
                    self.assertNotIsInstance(node.value, (float, complex), path.name)


if __name__ == "__main__":
    unittest.main()
