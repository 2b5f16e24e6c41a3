"""Some rules of the language that the package is written in: files, imports, sizes, characters."""

import ast
import pathlib
import unittest

PACKAGE = pathlib.Path(__file__).resolve().parent.parent / "oncepost"
LIBRARY = {"heapq", "math", "itertools"}


def files():
    return sorted(PACKAGE.rglob("*.py"))


def functions(tree):
    return [node for node in ast.walk(tree) if isinstance(node, ast.FunctionDef)]


class TestLanguage(unittest.TestCase):
    def test_only_python_files(self):
        names = [path.name for path in PACKAGE.iterdir() if path.name != "__pycache__"]
        self.assertIn("__init__.py", names)
        self.assertEqual([name for name in names if not name.endswith(".py") or name.lower() != name], [])

    def test_sizes(self):
        for path in files():
            text = path.read_text()
            with self.subTest(path.name):
                self.assertLessEqual(len(text.splitlines()), 399)
                self.assertLessEqual(max(len(line) for line in text.splitlines()), 120)
                for function in functions(ast.parse(text)):
                    self.assertLessEqual(function.end_lineno - function.lineno + 1, 40, function.name)

    def test_characters(self):
        for path in files():
            with self.subTest(path.name):
                others = [code for code in path.read_bytes() if code != 10 and not 32 <= code <= 126]
                self.assertEqual(others, [])

    def test_imports(self):
        for path in files():
            for node in ast.walk(ast.parse(path.read_text())):
                with self.subTest(path.name):
                    self.assertNotIsInstance(node, ast.Import)
                    if isinstance(node, ast.ImportFrom):
                        self.assertEqual(node.level, 0)
                        self.assertTrue(node.module.startswith("oncepost.") or node.module in LIBRARY, node.module)
                        self.assertNotIn("*", [name.name for name in node.names])

    def test_module_level(self):
        for path in files():
            for node in ast.parse(path.read_text()).body:
                with self.subTest(path.name, line=node.lineno):
                    plain = (ast.ImportFrom, ast.FunctionDef, ast.ClassDef, ast.Assign, ast.Expr)
                    self.assertIsInstance(node, plain)
                    if isinstance(node, ast.Expr):
                        self.assertIsInstance(node.value, ast.Constant)


if __name__ == "__main__":
    unittest.main()
