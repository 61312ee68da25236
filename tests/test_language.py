"""What every file of the package keeps to: its place, its size, its characters, its imports and its rows."""

import ast
import builtins
from pathlib import Path
from unittest import TestCase

import ordercodes

FOLDER = Path(ordercodes.__file__).parent
FILES = sorted(FOLDER.glob("*.py"))
LIBRARY = {"heapq", "math", "itertools", "collections"}
ROWS = (ast.Import, ast.ImportFrom, ast.FunctionDef, ast.ClassDef, ast.Assign)
BUILTINS = {"len", "range", "enumerate", "zip", "min", "max", "sum", "abs", "sorted", "reversed", "int", "str", "bool",
            "list",
            "tuple", "dict", "set", "isinstance", "any", "all", "ValueError", "LookupError", "TypeError", "property",
            "type"}
# A session of examples leaves its last result there as _.
ALL_BUILTINS = {name for name in vars(builtins) if name != "_"}
METHODS = {"append", "pop", "get", "items", "index", "count", "extend", "join", "split", "setdefault", "__init__"}
DOUBLE = {"__init__", "__getitem__", "__iter__", "__len__", "__eq__", "__str__"}
BARRED = (ast.GeneratorExp, ast.Global, ast.AsyncFunctionDef, ast.Await, ast.Div)


def is_docstring(node):
    return isinstance(node, ast.Expr) and isinstance(node.value, ast.Constant) and isinstance(node.value.value, str)


class LanguageTest(TestCase):
    def nodes(self):
        for file in FILES:
            for node in ast.walk(ast.parse(file.read_text())):
                yield file.name, node

    def test_the_folder_contains_plain_files_only(self):
        self.assertIn("__init__.py", [file.name for file in FILES])
        others = [path.name for path in FOLDER.iterdir() if path not in FILES and path.name != "__pycache__"]
        self.assertEqual(others, [])

    def test_sizes_and_characters(self):
        for file in FILES:
            lines = file.read_text().split("\n")
            self.assertLess(len(lines), 400, file.name)
            for number, line in enumerate(lines, start=1):
                self.assertLessEqual(len(line), 120, f"{file.name} {number}")
                self.assertTrue(all(" " <= sign <= "~" for sign in line), f"{file.name} {number}")

    def test_functions_have_at_most_40_lines(self):
        for name, node in self.nodes():
            if isinstance(node, ast.FunctionDef):
                self.assertLessEqual(node.end_lineno - node.lineno + 1, 40, f"{name} {node.name}")

    def test_imports_name_the_file_that_defines_the_name(self):
        for name, node in self.nodes():
            self.assertNotIsInstance(node, ast.Import, name)
            if isinstance(node, ast.ImportFrom) and node.module not in LIBRARY:
                folder, file = node.module.split(".")
                self.assertEqual((folder, node.level), ("ordercodes", 0), name)
                tree = ast.parse((FOLDER / f"{file}.py").read_text())
                defined = {row.name for row in tree.body if isinstance(row, (ast.FunctionDef, ast.ClassDef))}
                defined |= {target.id for row in tree.body if isinstance(row, ast.Assign) for target in row.targets}
                self.assertLessEqual({alias.name for alias in node.names}, defined, name)

    def test_only_definitions_stand_at_module_level(self):
        for file in FILES:
            for row in ast.parse(file.read_text()).body:
                self.assertTrue(is_docstring(row) or isinstance(row, ROWS), f"{file.name} {row.lineno}")

    def test_what_the_language_leaves_out(self):
        for name, node in self.nodes():
            self.assertNotIsInstance(node, BARRED, name)
            self.assertFalse(isinstance(node, ast.Constant) and isinstance(node.value, float), name)

    def test_exponents_are_literal(self):
        for name, node in self.nodes():
            if isinstance(node, ast.BinOp) and isinstance(node.op, ast.Pow):
                self.assertIsInstance(node.right, ast.Constant, name)
                self.assertIn(node.right.value, range(65), name)

    def test_only_simple_values_stand_behind_a_star_in_a_call(self):
        for name, node in self.nodes():
            if isinstance(node, ast.Call):
                starred = [told.value for told in node.args if isinstance(told, ast.Starred)]
                self.assertTrue(all(isinstance(told, (ast.Name, ast.Constant, ast.List,
                                                      ast.Tuple)) for told in starred), name)

    def test_is_stands_beside_none_true_and_false_only(self):
        for name, node in self.nodes():
            if isinstance(node, ast.Compare) and any(isinstance(sign, (ast.Is, ast.IsNot)) for sign in node.ops):
                self.assertTrue(all(isinstance(told, ast.Constant) for told in node.comparators), name)

    def test_builtins_are_those_allowed_and_keep_their_names(self):
        for name, node in self.nodes():
            if isinstance(node, ast.Name) and node.id in ALL_BUILTINS:
                self.assertIsInstance(node.ctx, ast.Load, f"{name} {node.id}")
                self.assertIn(node.id, BUILTINS, name)
            if isinstance(node, (ast.arg, ast.FunctionDef, ast.ClassDef)):
                told = node.arg if isinstance(node, ast.arg) else node.name
                self.assertNotIn(told, ALL_BUILTINS, name)

    def test_methods_are_those_allowed(self):
        own = {row.name for _, node in self.nodes() if isinstance(node, ast.ClassDef) for row in node.body
               if isinstance(row, ast.FunctionDef)}
        for name, node in self.nodes():
            if isinstance(node, ast.Call) and isinstance(node.func, ast.Attribute):
                self.assertIn(node.func.attr, METHODS | own, name)

    def test_double_underscores_are_those_allowed(self):
        for name, node in self.nodes():
            if isinstance(node, ast.ClassDef):
                told = {row.name for row in node.body if isinstance(row, ast.FunctionDef) and row.name.startswith("__")}
                self.assertLessEqual(told, DOUBLE, name)
                self.assertEqual("__getitem__" in told, "__iter__" in told, name)

    def test_only_properties_are_decorated_and_have_no_setter(self):
        for name, node in self.nodes():
            if isinstance(node, (ast.FunctionDef, ast.ClassDef)):
                told = [ast.unparse(row) for row in node.decorator_list]
                self.assertIn(told, ([], ["property"]), f"{name} {node.name}")

    def test_the_class_of_a_value_is_only_asked_for_its_name(self):
        for name, node in self.nodes():
            inner = [told for told in ast.iter_child_nodes(node) if isinstance(told, ast.Call)
                     and isinstance(told.func, ast.Name) and told.func.id == "type"]
            if inner:
                self.assertEqual((type(node), getattr(node, "attr", "")), (ast.Attribute, "__name__"), name)

    def test_a_finally_puts_names_back_alone(self):
        for name, node in self.nodes():
            for row in node.finalbody if isinstance(node, ast.Try) else ():
                self.assertIsInstance(row, ast.Assign, name)
                for told in ast.walk(row):
                    self.assertIsInstance(told, (ast.Assign, ast.Tuple, ast.Name, ast.Attribute, ast.expr_context),
                                          name)

    def test_errors_that_are_caught_are_those_of_the_package(self):
        for name, node in self.nodes():
            if isinstance(node, ast.ExceptHandler):
                self.assertEqual(ast.unparse(node.type), "(CodeError, NoCode, NoGap, NoKey)", name)

    def test_no_name_means_anything_else_than_the_import_of_its_file(self):
        for file in FILES:
            nodes = list(ast.walk(ast.parse(file.read_text())))
            imported = {alias.name for node in nodes if isinstance(node, ast.ImportFrom) for alias in node.names}
            given = {node.id for node in nodes if isinstance(node, ast.Name) and isinstance(node.ctx, ast.Store)}
            given |= {node.arg for node in nodes if isinstance(node, ast.arg)}
            self.assertEqual(imported & given, set(), file.name)
            used = {node.id for node in nodes if isinstance(node, ast.Name) and isinstance(node.ctx, ast.Load)}
            self.assertLessEqual(imported, used, file.name)

    def test_no_two_files_import_from_each_other(self):
        above = {file.stem: set() for file in FILES}
        for name, node in self.nodes():
            if isinstance(node, ast.ImportFrom) and node.module not in LIBRARY:
                above[name[:-len(".py")]].add(node.module.split(".")[1])
        while above:
            free = [name for name, others in above.items() if not others & set(above)]
            self.assertNotEqual(free, [], above)
            for name in free:
                del above[name]
