"""Checks those rules of the language that can be read off the files of the package."""

import ast
import pathlib
import unittest

PACKAGE = pathlib.Path(__file__).resolve().parent.parent / "holdtap"
FILES = sorted(path for path in PACKAGE.rglob("*") if "__pycache__" not in path.parts)
BUILTINS = set(
    "len range enumerate zip min max sum abs sorted reversed int str bool list tuple dict set "
    "isinstance ord repr any all divmod super map ValueError TypeError KeyError".split()
)


def python_files():
    return [path for path in FILES if path.suffix == ".py"]


class TestLanguage(unittest.TestCase):
    def test_the_folder_holds_only_python_files(self):
        self.assertTrue(python_files())
        self.assertEqual([path for path in FILES if path.is_file()], python_files())

    def test_sizes_and_signs(self):
        for path in python_files():
            lines = path.read_bytes().decode("ascii").split("\n")
            with self.subTest(path.name):
                self.assertLessEqual(len(lines), 399)
                self.assertLessEqual(max(len(line) for line in lines), 120)
                for line in lines:
                    self.assertTrue(all(" " <= sign <= "~" for sign in line), line)

    def test_functions_are_short(self):
        for path in python_files():
            for node in ast.walk(ast.parse(path.read_text())):
                if isinstance(node, ast.FunctionDef):
                    with self.subTest(path.name, function=node.name):
                        self.assertLessEqual(node.end_lineno - node.lineno + 1, 40)

    def test_imports_come_from_the_package(self):
        for path in python_files():
            for node in ast.walk(ast.parse(path.read_text())):
                self.assertNotIsInstance(node, ast.Import, path.name)
                if isinstance(node, ast.ImportFrom):
                    with self.subTest(path.name, line=node.lineno):
                        self.assertEqual(node.level, 0)
                        self.assertTrue(node.module.startswith("holdtap."))
                        self.assertNotIn("*", [alias.name for alias in node.names])

    def test_names_are_defined_where_they_are_imported_from(self):
        for path in python_files():
            for node in ast.parse(path.read_text()).body:
                if isinstance(node, ast.ImportFrom):
                    source = PACKAGE.parent / (node.module.replace(".", "/") + ".py")
                    own = {
                        thing.name for thing in ast.parse(source.read_text()).body
                        if isinstance(thing, (ast.FunctionDef, ast.ClassDef))
                    }
                    for alias in node.names:
                        with self.subTest(path.name, imported=alias.name):
                            self.assertIn(alias.name, own)

    def test_no_floats_and_no_percent_signs(self):
        for path in python_files():
            for node in ast.walk(ast.parse(path.read_text())):
                if isinstance(node, ast.Constant):
                    with self.subTest(path.name, line=node.lineno):
                        self.assertNotIsInstance(node.value, (float, complex))
                        if isinstance(node.value, str):
                            self.assertNotIn("%", node.value)

    def test_only_allowed_builtins_are_called(self):
        for path in python_files():
            tree = ast.parse(path.read_text())
            known = set(BUILTINS)
            for node in ast.walk(tree):
                if isinstance(node, (ast.FunctionDef, ast.ClassDef)):
                    known.add(node.name)
                if isinstance(node, ast.ImportFrom):
                    known.update(alias.name for alias in node.names)
            for node in ast.walk(tree):
                if isinstance(node, ast.Call) and isinstance(node.func, ast.Name):
                    with self.subTest(path.name, line=node.lineno):
                        self.assertIn(node.func.id, known)


if __name__ == "__main__":
    unittest.main()
