"""The files of the package keep to the rules of the language that can be looked up simply."""

import ast
import builtins
import pathlib
import re
import unittest

FOLDER = pathlib.Path(__file__).resolve().parent.parent / "lowerboards"
FILES = sorted(FOLDER.glob("*.py"))
ALLOWED = (
    "len range enumerate zip min max sum abs sorted reversed int str bool bytes list tuple dict set frozenset isinstance ord "
    "repr any all divmod pow getattr hasattr setattr iter next map super property staticmethod classmethod Exception ValueError "
    "TypeError KeyError IndexError LookupError ZeroDivisionError ArithmeticError OverflowError RuntimeError NotImplementedError "
    "AttributeError StopIteration NotImplemented"
).split()
FROM_OUTSIDE = ("heapq", "math", "itertools", "collections")
BARRED_NODES = (ast.Global, ast.AsyncFunctionDef, ast.AsyncFor, ast.AsyncWith, ast.Await, ast.Div, ast.Import)
DECORATORS = ("property", "classmethod", "staticmethod")
METHODS = "__init__ __repr__ __str__ __len__ __enter__ __exit__ __call__ __iter__ __contains__ __getitem__".split()
BARRED_WORDS = re.compile(r"\b(type|typing|enum|Enum|Generic|Protocol|ABC|namedtuple|NamedTuple|TypedDict|register|mro|"
                          r"elements|open|input|law)\b")


def trees():
    """The name, the text and the tree of each file."""
    texts = [(file.name, file.read_text(encoding="utf-8")) for file in FILES]
    return [(name, text, ast.parse(text)) for name, text in texts]


def top_names(tree):
    """The names of all functions and classes at module level, and of the plain values there."""
    named = [node.name for node in tree.body if isinstance(node, (ast.FunctionDef, ast.ClassDef))]
    return named + [target.id for node in tree.body if isinstance(node, ast.Assign) for target in node.targets]


def bound_names(tree):
    """The names of all parameters and of all that is assigned."""
    stored = [node.id for node in ast.walk(tree) if isinstance(node, ast.Name) and isinstance(node.ctx, ast.Store)]
    return stored + [node.arg for node in ast.walk(tree) if isinstance(node, ast.arg)]


class Language(unittest.TestCase):
    def test_files(self):
        others = [path.name for path in FOLDER.iterdir() if path not in FILES and path.name != "__pycache__"]
        self.assertEqual(others, [])
        self.assertIn("__init__.py", [file.name for file in FILES])

    def test_sizes_and_characters(self):
        for name, text, tree in trees():
            self.assertTrue(all(" " <= sign <= "~" or sign == "\n" for sign in text), name)
            self.assertNotIn("%", text.replace(" % ", ""), name)
            self.assertLessEqual(len(text.splitlines()), 399, name)
            self.assertLessEqual(max([len(line) for line in text.splitlines()]), 120, name)
            for node in ast.walk(tree):
                if isinstance(node, ast.FunctionDef):
                    self.assertLessEqual(node.end_lineno - node.lineno + 1, 40, (name, node.name))

    def test_imports(self):
        here = {name[:-3]: top_names(tree) for name, _, tree in trees()}
        for name, _, tree in trees():
            for node in [node for node in ast.walk(tree) if isinstance(node, ast.ImportFrom)]:
                self.assertIn(node, tree.body, name)
                self.assertEqual(node.level, 0, name)
                if node.module not in FROM_OUTSIDE:
                    package, file = node.module.split(".")
                    self.assertEqual(package, "lowerboards", name)
                    for one in node.names:
                        self.assertIn(one.name, here[file], name)
                        self.assertIsNone(one.asname, name)

    def test_statements_and_values(self):
        for name, text, tree in trees():
            for node in ast.walk(tree):
                self.assertNotIsInstance(node, BARRED_NODES, name)
                self.assertFalse(isinstance(node, ast.Constant) and isinstance(node.value, (float, complex)), name)
            bare = re.sub(r'""".*?"""|#[^\n]*', "", text, flags=re.DOTALL)
            self.assertIsNone(BARRED_WORDS.search(bare), name)

    def test_names(self):
        for name, _, tree in trees():
            imported = [one.name for node in tree.body if isinstance(node, ast.ImportFrom) for one in node.names]
            classes = [node.name for node in tree.body if isinstance(node, ast.ClassDef)]
            functions = [node.name for node in tree.body if isinstance(node, ast.FunctionDef)]
            bound = bound_names(tree) + functions
            self.assertEqual([one for one in bound if one in imported + classes], [], name)
            self.assertEqual([one for one in bound + classes if hasattr(builtins, one)], [], name)
            self.assertEqual([one for one in bound + classes if one.startswith("_") and one != "_"], [], name)
            self.assertEqual(len(imported + top_names(tree)), len(set(imported + top_names(tree))), name)

    def test_builtins(self):
        for name, _, tree in trees():
            bound = bound_names(tree)
            read = [node.id for node in ast.walk(tree) if isinstance(node, ast.Name) and isinstance(node.ctx, ast.Load)]
            barred = [one for one in read if hasattr(builtins, one) and one not in ALLOWED + bound]
            self.assertEqual(barred, [], name)

    def test_imports_are_used(self):
        for name, _, tree in trees():
            imported = [one.name for node in tree.body if isinstance(node, ast.ImportFrom) for one in node.names]
            read = [node.id for node in ast.walk(tree) if isinstance(node, ast.Name)]
            self.assertEqual([one for one in imported if one not in read], [], name)

    def test_module_level(self):
        plain = (ast.ImportFrom, ast.FunctionDef, ast.ClassDef, ast.Assign)
        for name, _, tree in trees():
            self.assertIsInstance(tree.body[0], ast.Expr, name)
            self.assertTrue(all(isinstance(node, plain) for node in tree.body[1:]), name)
            values = [node.value for node in tree.body if isinstance(node, ast.Assign)]
            called = [one for value in values for one in ast.walk(value) if isinstance(one, (ast.Call, ast.Lambda, ast.ListComp))]
            self.assertEqual(called, [], name)
            here = [node.name for node in tree.body if isinstance(node, ast.FunctionDef)]
            named = [one.id for value in values for one in ast.walk(value) if isinstance(one, ast.Name)]
            self.assertEqual([one for one in named if one not in here], [], name)

    def test_classes(self):
        for name, text, tree in trees():
            for node in ast.walk(tree):
                if isinstance(node, ast.ClassDef):
                    self.assertEqual(node.decorator_list, [], name)
                    methods = [one for one in node.body if isinstance(one, ast.FunctionDef)]
                    self.assertEqual([one.name for one in methods if one.name.startswith("__") and one.name not in METHODS], [], name)
                    self.assertEqual(len({one.name for one in methods}), len(methods), name)
                if isinstance(node, ast.FunctionDef):
                    self.assertTrue(all(one.id in DECORATORS for one in node.decorator_list), (name, node.name))
            for word in ("(type)", "Meta", "metaclass=", "reversed(", ".sort("):
                self.assertNotIn(word, text, name)

    def test_no_method_is_an_attribute(self):
        found = [node for _, _, tree in trees() for node in ast.walk(tree)]
        assigned = {node.attr for node in found if isinstance(node, ast.Attribute) and isinstance(node.ctx, ast.Store)}
        methods = {one.name for node in found if isinstance(node, ast.ClassDef) for one in node.body if isinstance(one, ast.FunctionDef)}
        self.assertEqual(assigned & methods, set())
        self.assertEqual(methods & {"keys", "items", "values", "pop", "append", "sort"}, set())

    def test_kept_iterators(self):
        # A zip, enumerate and the like is iterated where it stands.
        for name, _, tree in trees():
            kept = [node.value for node in ast.walk(tree) if isinstance(node, (ast.Assign, ast.Return))]
            called = [value.func.id for value in kept if isinstance(value, ast.Call) and isinstance(value.func, ast.Name)]
            self.assertEqual([one for one in called if one in ("zip", "enumerate", "reversed", "map", "iter")], [], name)
