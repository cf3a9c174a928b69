"""The rules of the language that a program can check in a few lines: sizes, characters, imports, names."""

import ast
import builtins
import pathlib
import unittest

PACKAGE = pathlib.Path(__file__).resolve().parent.parent / "beatscan"
# What these return is walked on the spot (L23), and what may walk it as its first argument.
WALKED = {"range", "zip", "enumerate", "reversed", "map"}
WALKED_METHODS = {"items", "keys", "values"}
WALKERS = {"list", "tuple", "dict", "sorted", "sum", "any", "all", "enumerate", "zip", "min", "max"}
BARRED = {"register", "mro", "elements", "open", "input", "law", "version_info", "with_traceback", "add_note"}


def files():
    return sorted(path for path in PACKAGE.iterdir() if path.name != "__pycache__")


def trees():
    return [(path.name, ast.parse(path.read_text(encoding="ascii"))) for path in files()]


def bound_names(tree):
    """Names of variables, parameters, functions, classes and imports, methods left out."""
    methods = set()
    for node in ast.walk(tree):
        if isinstance(node, ast.ClassDef):
            methods |= {id(part) for part in node.body}
    for node in ast.walk(tree):
        if isinstance(node, ast.Name) and isinstance(node.ctx, ast.Store):
            yield node.id
        elif isinstance(node, ast.arg):
            yield node.arg
        elif isinstance(node, (ast.FunctionDef, ast.ClassDef)) and id(node) not in methods:
            yield node.name
        elif isinstance(node, ast.alias):
            yield node.name


def is_walked(node):
    """Whether a node is a call of what must be walked on the spot."""
    if not isinstance(node, ast.Call):
        return False
    if isinstance(node.func, ast.Attribute):
        return node.func.attr in WALKED_METHODS
    return isinstance(node.func, ast.Name) and node.func.id in WALKED


def is_walked_on_the_spot(node, parent):
    """Whether a call of this kind stands where it is walked at once."""
    if isinstance(parent, (ast.For, ast.comprehension)):
        return parent.iter is node
    if isinstance(parent, ast.Call) and isinstance(parent.func, ast.Name) and parent.args[:1] == [node]:
        if parent.func.id == "reversed":
            return isinstance(node.func, ast.Name) and node.func.id == "range"
        # Beside another argument, min and max would compare it.
        return parent.func.id in WALKERS and (parent.func.id not in ("min", "max") or len(parent.args) == 1)
    return False


def kept_walks(text):
    """The rows of a text in which such a call is passed on, kept or returned."""
    parents = [(node, part) for node in ast.walk(ast.parse(text)) for part in ast.iter_child_nodes(node)]
    return sorted(part.lineno for node, part in parents if is_walked(part) and not is_walked_on_the_spot(part, node))


class Language(unittest.TestCase):
    def test_only_python_files_of_plain_names(self):
        for path in files():
            self.assertTrue(path.is_file() and path.suffix == ".py", path)
            self.assertEqual(path.name, path.name.lower())

    def test_sizes(self):
        for path in files():
            lines = path.read_text(encoding="ascii").split("\n")
            self.assertLessEqual(len(lines), 399, path)
            self.assertLessEqual(max(len(line) for line in lines), 120, path)
        for name, tree in trees():
            for node in ast.walk(tree):
                if isinstance(node, ast.FunctionDef):
                    self.assertLessEqual(node.end_lineno - node.lineno + 1, 40, f"{name}: {node.name}")

    def test_characters(self):
        for path in files():
            text = path.read_bytes()
            self.assertEqual([sign for sign in text if sign != 10 and not 32 <= sign <= 126], [], path)
        for name, tree in trees():
            for node in ast.walk(tree):
                if isinstance(node, ast.Constant) and isinstance(node.value, str):
                    self.assertNotIn("%", node.value, name)

    def test_imports(self):
        for name, tree in trees():
            for node in ast.walk(tree):
                self.assertNotIsInstance(node, ast.Import, name)
                if isinstance(node, ast.ImportFrom):
                    self.assertEqual((node.level, node.module.split(".")[0]), (0, "beatscan"), name)

    def test_names(self):
        for name, tree in trees():
            bound = list(bound_names(tree))
            self.assertEqual([word for word in bound if hasattr(builtins, word) or word in BARRED], [], name)
            imported = [a.name for n in ast.walk(tree) if isinstance(n, ast.ImportFrom) for a in n.names]
            self.assertEqual([word for word in imported if bound.count(word) > 1], [], name)

    def test_no_floats_and_no_global(self):
        for name, tree in trees():
            for node in ast.walk(tree):
                self.assertNotIsInstance(node, (ast.Global, ast.AsyncFunctionDef, ast.Div), name)
                if isinstance(node, ast.Constant):
                    self.assertNotIsInstance(node.value, (float, complex), name)

    def test_ranges_and_the_like_are_walked_on_the_spot(self):
        for path in files():
            self.assertEqual(kept_walks(path.read_text(encoding="ascii")), [], path)

    def test_what_counts_as_walked_on_the_spot(self):
        for text in ("for k in range(3): pass", "[k for k, v in d.items()]", "list(range(3))", "dict(zip(a, b))",
                     "tuple(reversed(range(3)))", "max(d.values())", "max(d.values(), default=0)", "sum(x for x in zip(a, b))",
                     "for k, v in enumerate(zip(a, b)): pass"):
            self.assertEqual(kept_walks(text), [], text)
        for text in ("f(range(3))", "x.f(a, range(3))", "a = range(3)", "return_ = [range(3)]", "f(*zip(a, b))",
                     "a = d.items()", "lambda: d.keys()", "len(d.values())", "range(3) == a", "list(reversed(d.items()))",
                     "max(range(3), a)", "list(zip(a, range(3)))", "set(range(3))", "f(x=enumerate(a))", "a, b = zip(c, d)"):
            self.assertEqual(kept_walks(text), [1], text)
