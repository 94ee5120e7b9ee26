"""Checks those rules of the language that can be read off the files of the package."""

import ast
import builtins
import pathlib
import unittest

PACKAGE = pathlib.Path(__file__).resolve().parent.parent / "holdtap"
FILES = sorted(path for path in PACKAGE.rglob("*") if "__pycache__" not in path.parts)
BUILTINS = set(
    "len range enumerate zip min max sum abs sorted reversed int str bool list tuple dict set "
    "isinstance ord repr any all divmod super map ValueError TypeError KeyError".split()
)
NO_NAMES = set(
    "register mro elements open input law version_info with_traceback add_note attrgetter breakpoint "
    "compile copyright credits delattr dir eval exec exit gc globals help id importlib license locals "
    "methodcaller os quit setattr super type vars sys _cold _tuplegetter _outside _record "
    "_written_out _member_names".split()
)
NO_ATTRIBUTES = set(
    "items keys values pop update append clear extend insert remove reverse setdefault sort args "
    "encode decode hex fromhex format format_map mro".split()
)
KINDS_OF_NODES = (
    ast.GeneratorExp, ast.Global, ast.AsyncFunctionDef, ast.Await, ast.Div, ast.SetComp, ast.Set,
    ast.With, ast.Match, ast.Lambda, ast.Starred, ast.NamedExpr, ast.AnnAssign,
)


def python_files():
    return [path for path in FILES if path.suffix == ".py"]


def trees():
    return [(path, ast.parse(path.read_text())) for path in python_files()]


def bound_names(function):
    """The names of the parameters, variables and nested functions of a function."""
    names = [node.arg for node in ast.walk(function) if isinstance(node, ast.arg)]
    for node in ast.walk(function):
        if isinstance(node, ast.Name) and isinstance(node.ctx, ast.Store):
            names.append(node.id)
        if isinstance(node, ast.FunctionDef) and node is not function:
            names.append(node.name)
        if isinstance(node, ast.ExceptHandler) and node.name:
            names.append(node.name)
    return names


def functions(tree):
    return [node for node in ast.walk(tree) if isinstance(node, ast.FunctionDef)]


def imported_modules(tree):
    return [node.module for node in tree.body if isinstance(node, ast.ImportFrom)]


class TestLanguage(unittest.TestCase):
    def test_the_folder_holds_only_python_files(self):
        self.assertTrue(python_files())
        self.assertEqual([path for path in FILES if path.is_file()], python_files())

    def test_sizes_and_signs(self):
        for path in python_files():
            lines = path.read_bytes().decode("ascii").split("\n")
            with self.subTest(path.name):
                self.assertLessEqual(len(lines), 399)
                self.assertLessEqual(max(len(line) for line in lines), 120)
                for line in lines:
                    self.assertTrue(all(" " <= sign <= "~" for sign in line), line)

    def test_functions_are_short(self):
        for path in python_files():
            for node in ast.walk(ast.parse(path.read_text())):
                if isinstance(node, ast.FunctionDef):
                    with self.subTest(path.name, function=node.name):
                        self.assertLessEqual(node.end_lineno - node.lineno + 1, 40)

    def test_imports_come_from_the_package(self):
        for path in python_files():
            for node in ast.walk(ast.parse(path.read_text())):
                self.assertNotIsInstance(node, ast.Import, path.name)
                if isinstance(node, ast.ImportFrom):
                    with self.subTest(path.name, line=node.lineno):
                        self.assertEqual(node.level, 0)
                        self.assertTrue(node.module.startswith("holdtap."))
                        self.assertNotIn("*", [alias.name for alias in node.names])

    def test_names_are_defined_where_they_are_imported_from(self):
        for path in python_files():
            for node in ast.parse(path.read_text()).body:
                if isinstance(node, ast.ImportFrom):
                    source = PACKAGE.parent / (node.module.replace(".", "/") + ".py")
                    own = set()
                    for thing in ast.parse(source.read_text()).body:
                        if isinstance(thing, (ast.FunctionDef, ast.ClassDef)):
                            own.add(thing.name)
                        if isinstance(thing, ast.Assign):
                            own.update(target.id for target in thing.targets)
                    for alias in node.names:
                        with self.subTest(path.name, imported=alias.name):
                            self.assertIn(alias.name, own)

    def test_no_floats_and_no_percent_signs(self):
        for path in python_files():
            for node in ast.walk(ast.parse(path.read_text())):
                if isinstance(node, ast.Constant):
                    with self.subTest(path.name, line=node.lineno):
                        self.assertNotIsInstance(node.value, (float, complex))
                        if isinstance(node.value, str):
                            self.assertNotIn("%", node.value)

    def test_only_allowed_builtins_are_called(self):
        for path in python_files():
            tree = ast.parse(path.read_text())
            known = set(BUILTINS)
            for node in ast.walk(tree):
                if isinstance(node, (ast.FunctionDef, ast.ClassDef)):
                    known.add(node.name)
                if isinstance(node, ast.ImportFrom):
                    known.update(alias.name for alias in node.names)
                if isinstance(node, ast.FunctionDef) and node.decorator_list:
                    known.add("cls")
                if isinstance(node, ast.Assign) and isinstance(node.value, ast.Subscript):
                    if ast.unparse(node.value.value).isupper():
                        known.add(node.targets[0].id)
            for node in ast.walk(tree):
                if isinstance(node, ast.Call) and isinstance(node.func, ast.Name):
                    with self.subTest(path.name, line=node.lineno):
                        self.assertIn(node.func.id, known)

    def test_only_plain_parts_of_the_language_are_used(self):
        for path, tree in trees():
            for node in ast.walk(tree):
                with self.subTest(path.name, line=getattr(node, "lineno", None)):
                    self.assertNotIsInstance(node, KINDS_OF_NODES)
                    if isinstance(node, ast.Compare):
                        for sign, right in zip(node.ops, node.comparators):
                            if isinstance(sign, (ast.Is, ast.IsNot)):
                                self.assertIn(ast.unparse(right), ("None", "True", "False"))
                    if isinstance(node, ast.FunctionDef):
                        decorators = [ast.unparse(one) for one in node.decorator_list]
                        self.assertIn(decorators, ([], ["property"], ["classmethod"]))

    def test_names_have_one_meaning(self):
        for path, tree in trees():
            taken = {node.name for node in tree.body if isinstance(node, ast.ClassDef)}
            for node in tree.body:
                if isinstance(node, ast.ImportFrom):
                    taken.update(alias.name for alias in node.names)
            for function in functions(tree):
                for name in bound_names(function):
                    with self.subTest(path.name, function=function.name, name=name):
                        self.assertNotIn(name, taken | NO_NAMES)
                        self.assertFalse(hasattr(builtins, name))
                self.assertFalse(any(
                    isinstance(node, ast.Name) and node.id == "_" and isinstance(node.ctx, ast.Load)
                    for node in ast.walk(function)
                ))

    def test_names_of_attributes_and_methods(self):
        methods, attributes = set(), set()
        for path, tree in trees():
            for node in ast.walk(tree):
                if isinstance(node, ast.ClassDef):
                    methods.update(part.name for part in node.body if isinstance(part, ast.FunctionDef))
                if isinstance(node, ast.Attribute) and isinstance(node.ctx, ast.Store):
                    attributes.add(node.attr)
        self.assertEqual(methods & attributes, set())
        self.assertEqual(attributes & (NO_ATTRIBUTES | NO_NAMES), set())
        self.assertEqual(methods & (NO_ATTRIBUTES | NO_NAMES), set())

    def test_no_two_files_import_from_each_other(self):
        behind = {"holdtap." + path.stem: imported_modules(tree) for path, tree in trees()}
        for start in behind:
            reached, rest = set(), list(behind[start])
            while rest:
                module = rest.pop()
                if module not in reached:
                    reached.add(module)
                    rest.extend(behind[module])
            self.assertNotIn(start, reached)


if __name__ == "__main__":
    unittest.main()
