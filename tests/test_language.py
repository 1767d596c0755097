"""The package keeps to the small part of Python that it is written in, as far as a look at it can tell."""

import ast
import builtins
import os
import re
import unittest

PACKAGE = os.path.join(os.path.dirname(os.path.dirname(os.path.abspath(__file__))), "fencefield")

PYTHONS_NAMES = set("""
    len range enumerate zip min max sum abs sorted reversed int str bool list tuple dict set frozenset isinstance ord
    repr any all divmod Exception ValueError TypeError KeyError IndexError LookupError ZeroDivisionError
    ArithmeticError OverflowError RuntimeError NotImplementedError StopIteration
""".split())

METHODS = set("""
    append clear copy count endswith extend find get index insert isalnum isalpha isdigit islower isspace isupper items
    join keys ljust lower lstrip partition pop remove replace reverse rfind rjust rpartition rsplit rstrip setdefault
    split splitlines startswith strip update upper values zfill bit_length
""".split())

BARRED_WORDS = re.compile(
    r"\b(type|typing|typing_extensions|enum|Enum|IntEnum|StrEnum|Flag|IntFlag|Generic|Protocol|ABC|ABCMeta|namedtuple"
    r"|NamedTuple|TypedDict|TYPE_CHECKING|abstractmethod)\b|dataclass|overload|contextmanager")

BARRED_NODES = (
    ast.With, ast.Match, ast.Delete, ast.Global, ast.Nonlocal, ast.Assert, ast.Yield, ast.YieldFrom, ast.Await,
    ast.AsyncFunctionDef, ast.AsyncFor, ast.AsyncWith, ast.SetComp, ast.DictComp, ast.GeneratorExp, ast.NamedExpr,
    ast.Starred, ast.Div, ast.MatMult, ast.Import)


def package_files():
    return sorted(name for name in os.listdir(PACKAGE) if name != "__pycache__")


def text_of(name):
    with open(os.path.join(PACKAGE, name), encoding="utf-8", newline="") as file:
        return file.read()


def top_names(tree):
    names = set()
    for node in tree.body:
        if isinstance(node, (ast.FunctionDef, ast.ClassDef)):
            names.add(node.name)
        elif isinstance(node, ast.ImportFrom):
            names.update(alias.name for alias in node.names)
        elif isinstance(node, ast.Assign):
            names.update(target.id for target in node.targets)
    return names


class Language(unittest.TestCase):
    def setUp(self):
        self.trees = {name: ast.parse(text_of(name)) for name in package_files()}

    def nodes(self, *kinds):
        for name, tree in self.trees.items():
            for node in ast.walk(tree):
                if isinstance(node, kinds):
                    yield f"{name}:{getattr(node, 'lineno', 0)}", node

    def test_files(self):
        self.assertIn("__init__.py", self.trees)
        for name in self.trees:
            self.assertRegex(name, r"^([a-z][a-z0-9_]*|__init__)\.py$")

    def test_signs_and_sizes(self):
        for name in self.trees:
            text = text_of(name)
            self.assertRegex(text, r"\A[ -~\n]*\Z", name)
            self.assertLessEqual(len(text.splitlines()), 400, name)
            self.assertLessEqual(max(len(line) for line in text.splitlines()), 120, name)
            self.assertIsNone(BARRED_WORDS.search(text), name)
        for place, node in self.nodes(ast.FunctionDef):
            self.assertLessEqual(node.end_lineno - node.lineno + 1, 40, place)

    def test_statements_and_expressions(self):
        for place, node in self.nodes(ast.AST):
            self.assertNotIsInstance(node, BARRED_NODES, place)
        for place, node in self.nodes(ast.Constant):
            self.assertNotIsInstance(node.value, (float, complex, bytes), place)
        for place, node in self.nodes(ast.Assign):
            self.assertEqual(len(node.targets), 1, place)
        for place, node in self.nodes(ast.For, ast.While):
            self.assertEqual(node.orelse, [], place)
        for place, node in self.nodes(ast.ListComp):
            self.assertEqual(len(node.generators), 1, place)
            self.assertLessEqual(len(node.generators[0].ifs), 1, place)

    def test_defs(self):
        for place, node in self.nodes(ast.FunctionDef, ast.ClassDef):
            self.assertEqual(node.decorator_list, [], place)
        for place, node in self.nodes(ast.arguments):
            self.assertEqual((node.vararg, node.kwarg, node.kwonlyargs, node.posonlyargs), (None, None, [], []), place)

    def test_imports(self):
        for place, node in self.nodes(ast.ImportFrom):
            self.assertEqual(node.level, 0, place)
            self.assertRegex(node.module, r"^fencefield\.[a-z_]+$", place)
            drawn = self.trees[node.module.split(".")[1] + ".py"]
            own = {part.name for part in drawn.body if isinstance(part, (ast.FunctionDef, ast.ClassDef))}
            own |= {part.targets[0].id for part in drawn.body if isinstance(part, ast.Assign)}
            self.assertLessEqual({alias.name for alias in node.names}, own, place)

    def test_names(self):
        for name, tree in self.trees.items():
            bound = {node.id for node in ast.walk(tree) if isinstance(node, ast.Name) and isinstance(node.ctx, ast.Store)}
            bound |= {node.arg for node in ast.walk(tree) if isinstance(node, ast.arg)}
            self.assertEqual(bound & set(dir(builtins)), set(), name)
            self.assertEqual([word for word in bound | top_names(tree) if word.startswith("_")], [], name)
            read = {node.id for node in ast.walk(tree) if isinstance(node, ast.Name)}
            self.assertLessEqual(read, bound | top_names(tree) | PYTHONS_NAMES, name)

    def test_methods(self):
        own = {node.name for place, node in self.nodes(ast.FunctionDef)}
        own |= {node.attr for place, node in self.nodes(ast.Attribute) if isinstance(node.ctx, ast.Store)}
        for place, node in self.nodes(ast.Attribute):
            self.assertIn(node.attr, METHODS | own | {"__init__"}, place)


if __name__ == "__main__":
    unittest.main()
