"""The rules of the language that a program can check in a few lines: sizes, characters, imports, names."""

import ast
import builtins
import pathlib
import unittest

PACKAGE = pathlib.Path(__file__).resolve().parent.parent / "beatscan"
BARRED = {"register", "mro", "elements", "open", "input", "law", "version_info", "with_traceback", "add_note"}


def files():
    return sorted(path for path in PACKAGE.iterdir() if path.name != "__pycache__")


def trees():
    return [(path.name, ast.parse(path.read_text(encoding="ascii"))) for path in files()]


def bound_names(tree):
    """Names of variables, parameters, functions, classes and imports, methods left out."""
    methods = set()
    for node in ast.walk(tree):
        if isinstance(node, ast.ClassDef):
            methods |= {id(part) for part in node.body}
    for node in ast.walk(tree):
        if isinstance(node, ast.Name) and isinstance(node.ctx, ast.Store):
            yield node.id
        elif isinstance(node, ast.arg):
            yield node.arg
        elif isinstance(node, (ast.FunctionDef, ast.ClassDef)) and id(node) not in methods:
            yield node.name
        elif isinstance(node, ast.alias):
            yield node.name


class Language(unittest.TestCase):
    def test_only_python_files_of_plain_names(self):
        for path in files():
            self.assertTrue(path.is_file() and path.suffix == ".py", path)
            self.assertEqual(path.name, path.name.lower())

    def test_sizes(self):
        for path in files():
            lines = path.read_text(encoding="ascii").split("\n")
            self.assertLessEqual(len(lines), 399, path)
            self.assertLessEqual(max(len(line) for line in lines), 120, path)
        for name, tree in trees():
            for node in ast.walk(tree):
                if isinstance(node, ast.FunctionDef):
                    self.assertLessEqual(node.end_lineno - node.lineno + 1, 40, f"{name}: {node.name}")

    def test_characters(self):
        for path in files():
            text = path.read_bytes()
            self.assertEqual([sign for sign in text if sign != 10 and not 32 <= sign <= 126], [], path)
        for name, tree in trees():
            for node in ast.walk(tree):
                if isinstance(node, ast.Constant) and isinstance(node.value, str):
                    self.assertNotIn("%", node.value, name)

    def test_imports(self):
        for name, tree in trees():
            for node in ast.walk(tree):
                self.assertNotIsInstance(node, ast.Import, name)
                if isinstance(node, ast.ImportFrom):
                    self.assertEqual((node.level, node.module.split(".")[0]), (0, "beatscan"), name)

    def test_names(self):
        for name, tree in trees():
            bound = list(bound_names(tree))
            self.assertEqual([word for word in bound if hasattr(builtins, word) or word in BARRED], [], name)
            imported = [a.name for n in ast.walk(tree) if isinstance(n, ast.ImportFrom) for a in n.names]
            self.assertEqual([word for word in imported if bound.count(word) > 1], [], name)

    def test_no_floats_and_no_global(self):
        for name, tree in trees():
            for node in ast.walk(tree):
                self.assertNotIsInstance(node, (ast.Global, ast.AsyncFunctionDef, ast.Div), name)
                if isinstance(node, ast.Constant):
                    self.assertNotIsInstance(node.value, (float, complex), name)
