"""What every file of the package keeps to: its place, its size, its characters, its imports and its rows."""

import ast
from pathlib import Path
from unittest import TestCase

import ordercodes

FOLDER = Path(ordercodes.__file__).parent
FILES = sorted(FOLDER.glob("*.py"))
LIBRARY = {"heapq", "math", "itertools", "collections"}
ROWS = (ast.Import, ast.ImportFrom, ast.FunctionDef, ast.ClassDef, ast.Assign)
BARRED = (ast.GeneratorExp, ast.Global, ast.AsyncFunctionDef, ast.Await, ast.Div)


def is_docstring(node):
    return isinstance(node, ast.Expr) and isinstance(node.value, ast.Constant) and isinstance(node.value.value, str)


class LanguageTest(TestCase):
    def nodes(self):
        for file in FILES:
            for node in ast.walk(ast.parse(file.read_text())):
                yield file.name, node

    def test_the_folder_contains_plain_files_only(self):
        self.assertIn("__init__.py", [file.name for file in FILES])
        others = [path.name for path in FOLDER.iterdir() if path not in FILES and path.name != "__pycache__"]
        self.assertEqual(others, [])

    def test_sizes_and_characters(self):
        for file in FILES:
            lines = file.read_text().split("\n")
            self.assertLess(len(lines), 400, file.name)
            for number, line in enumerate(lines, start=1):
                self.assertLessEqual(len(line), 120, f"{file.name} {number}")
                self.assertTrue(all(" " <= sign <= "~" for sign in line), f"{file.name} {number}")

    def test_functions_have_at_most_40_lines(self):
        for name, node in self.nodes():
            if isinstance(node, ast.FunctionDef):
                self.assertLessEqual(node.end_lineno - node.lineno + 1, 40, f"{name} {node.name}")

    def test_imports_name_the_file_that_defines_the_name(self):
        for name, node in self.nodes():
            self.assertNotIsInstance(node, ast.Import, name)
            if isinstance(node, ast.ImportFrom) and node.module not in LIBRARY:
                folder, file = node.module.split(".")
                self.assertEqual((folder, node.level), ("ordercodes", 0), name)
                tree = ast.parse((FOLDER / f"{file}.py").read_text())
                defined = {row.name for row in tree.body if isinstance(row, (ast.FunctionDef, ast.ClassDef))}
                defined |= {target.id for row in tree.body if isinstance(row, ast.Assign) for target in row.targets}
                self.assertLessEqual({alias.name for alias in node.names}, defined, name)

    def test_only_definitions_stand_at_module_level(self):
        for file in FILES:
            for row in ast.parse(file.read_text()).body:
                self.assertTrue(is_docstring(row) or isinstance(row, ROWS), f"{file.name} {row.lineno}")

    def test_what_the_language_leaves_out(self):
        for name, node in self.nodes():
            self.assertNotIsInstance(node, BARRED, name)
            self.assertFalse(isinstance(node, ast.Constant) and isinstance(node.value, float), name)
