"""Looks at the package's files: whether they keep to the small part of Python that they are to be written in."""

import ast
import builtins
import re
import unittest

from pathlib import Path

PACKAGE = Path(__file__).resolve().parent.parent / "yesnowords"
FILES = sorted(path for path in PACKAGE.rglob("*") if "__pycache__" not in path.parts and path.is_file())

OWN_NAMES = set(
    "len range enumerate zip min max sum abs sorted reversed int str bool bytes list tuple dict set isinstance ord repr "
    "any all divmod Exception ValueError TypeError KeyError IndexError LookupError ZeroDivisionError ArithmeticError "
    "OverflowError RuntimeError NotImplementedError StopIteration".split())
METHODS = set(
    "append clear copy count endswith extend find get index insert isalnum isalpha isdigit islower isspace isupper items "
    "join keys ljust lower lstrip partition pop remove replace reverse rfind rjust rpartition rsplit rstrip setdefault "
    "split splitlines startswith strip update upper values zfill bit_length sort add discard".split())
WORDS = (
    r"\b(type|typing|typing_extensions|enum|Enum|IntEnum|StrEnum|Flag|IntFlag|Generic|Protocol|ABC|ABCMeta|namedtuple|"
    r"NamedTuple|TypedDict|TYPE_CHECKING|abstractmethod)\b|dataclass|overload|contextmanager")
UNUSED = set(
    "register mro elements open input version_info with_traceback add_note attrgetter breakpoint builtins compile "
    "copyright credits delattr dir eval exec exit gc getattr globals hasattr help id importlib license locals "
    "methodcaller os quit setattr super type vars sys format format_map".split())
OUT = (
    ast.GeneratorExp, ast.With, ast.Global, ast.Nonlocal, ast.Yield, ast.YieldFrom, ast.Await, ast.NamedExpr, ast.Match,
    ast.Div, ast.MatMult, ast.AsyncFunctionDef, ast.AsyncFor, ast.AsyncWith, ast.Import, ast.Set, ast.SetComp)


def tree_of(path):
    return ast.parse(path.read_text(encoding="utf-8"))


def tops(tree):
    told = []
    for row in tree.body:
        if isinstance(row, (ast.FunctionDef, ast.ClassDef)):
            told.append(row.name)
        elif isinstance(row, ast.Assign):
            told += [target.id for target in row.targets]
        elif isinstance(row, ast.ImportFrom):
            told += [alias.asname or alias.name for alias in row.names]
    return told


def imports(tree):
    return [row for row in tree.body if isinstance(row, ast.ImportFrom)]


class Form(unittest.TestCase):
    def each(self):
        for path in FILES:
            with self.subTest(path=path.name):
                yield path, tree_of(path)

    def nodes(self):
        for path, tree in self.each():
            for node in ast.walk(tree):
                yield path, node

    def test_files_and_signs(self):
        self.assertIn(PACKAGE / "__init__.py", FILES)
        for path in FILES:
            text = path.read_bytes().decode("ascii")
            self.assertRegex(path.name, r"^([a-z][a-z0-9_]*|__init__)\.py$")
            self.assertEqual(path.parent, PACKAGE)
            self.assertFalse(hasattr(builtins, path.stem) and path.stem != "__init__", path)
            self.assertRegex(text, r"^[\n -~]+\n$")
            self.assertIsNone(re.search(WORDS, text), path)
            self.assertLessEqual(len(text.splitlines()), 400)
            self.assertLessEqual(max(len(row) for row in text.splitlines()), 120)

    def test_tops(self):
        for path, tree in self.each():
            told = tops(tree)
            self.assertEqual(sorted(told), sorted(set(told)), path)
            for row in tree.body[1:]:
                self.assertIsInstance(row, (ast.FunctionDef, ast.ClassDef, ast.Assign, ast.ImportFrom), path)

    def test_imports(self):
        draws = {}
        for path, tree in self.each():
            draws[path.stem] = []
            for row in imports(tree):
                package, _, stem = row.module.partition(".")
                self.assertEqual((package, row.level), ("yesnowords", 0), path)
                drawn = tree_of(PACKAGE / f"{stem}.py")
                own = set(tops(drawn)) - {alias.name for other in imports(drawn) for alias in other.names}
                self.assertLessEqual({alias.name for alias in row.names}, own, path)
                draws[path.stem].append(stem)
        self.assertEqual(draws["__init__"], [])
        while draws:
            free = [stem for stem in draws if not set(draws[stem]) & set(draws)]
            self.assertTrue(free, draws)
            draws = {stem: others for stem, others in draws.items() if stem not in free}

    def test_no_import_unused(self):
        for path, tree in self.each():
            used = {node.id for node in ast.walk(tree) if isinstance(node, ast.Name)}
            for row in imports(tree):
                for alias in row.names:
                    self.assertIn(alias.name, used, path)

    def test_what_is_out(self):
        for path, node in self.nodes():
            place = (path.name, getattr(node, "lineno", 0))
            self.assertNotIsInstance(node, OUT, place)
            if isinstance(node, ast.Constant):
                self.assertNotIsInstance(node.value, (float, complex), place)
                self.assertNotIn("%", str(node.value), place)
            if isinstance(node, ast.BinOp) and isinstance(node.op, ast.Pow):
                self.assertIsInstance(node.right, ast.Constant, place)
            if isinstance(node, ast.FormattedValue):
                self.assertIsNone(node.format_spec, place)
            if isinstance(node, (ast.For, ast.While)):
                self.assertEqual(node.orelse, [], place)
            if isinstance(node, ast.Compare) and any(isinstance(op, (ast.Is, ast.IsNot)) for op in node.ops):
                sides = [node.left] + node.comparators
                told = [isinstance(side, ast.Constant) and side.value in (None, True, False) for side in sides]
                self.assertTrue(any(told), place)

    def test_defs(self):
        for path, node in self.nodes():
            if isinstance(node, ast.FunctionDef):
                self.assertLessEqual(node.end_lineno - node.lineno + 1, 40, node.name)
                self.assertEqual(node.decorator_list, [], node.name)
                self.assertIsNone(node.args.vararg or node.args.kwarg, node.name)
                self.assertEqual(node.args.posonlyargs, [], node.name)
                self.assertIsNotNone(ast.get_docstring(node) or node.name == "__init__" or None, node.name)
            if isinstance(node, ast.ClassDef):
                self.assertLessEqual(len(node.bases), 1, node.name)
                self.assertEqual(node.decorator_list, [], node.name)

    def test_names(self):
        for path, tree in self.each():
            known = set(tops(tree)) | OWN_NAMES
            drawn = {alias.name for row in imports(tree) for alias in row.names}
            for node in ast.walk(tree):
                place = (path.name, getattr(node, "lineno", 0))
                given = None
                if isinstance(node, ast.arg):
                    given = node.arg
                elif isinstance(node, ast.Name) and isinstance(node.ctx, ast.Store):
                    given = node.id
                if given is not None:
                    self.assertRegex(given, r"^[A-Za-z][A-Za-z0-9_]*$", place)
                    self.assertNotIn(given, drawn | UNUSED, place)
                    self.assertFalse(hasattr(builtins, given), place)
                if isinstance(node, ast.Name) and isinstance(node.ctx, ast.Load) and hasattr(builtins, node.id):
                    self.assertIn(node.id, known, place)

    def test_methods(self):
        own = {"__init__"}
        for path, node in self.nodes():
            if isinstance(node, ast.ClassDef):
                own |= {row.name for row in node.body if isinstance(row, ast.FunctionDef)}
        for path, node in self.nodes():
            if isinstance(node, ast.Call) and isinstance(node.func, ast.Attribute):
                self.assertIn(node.func.attr, METHODS | own, (path.name, node.lineno))

    def test_sets_stand_where_they_may(self):
        for path, tree in self.each():
            free = []
            for node in ast.walk(tree):
                if isinstance(node, ast.Call) and isinstance(node.func, ast.Name) and node.func.id in ("sorted", "len"):
                    free += node.args
            for node in ast.walk(tree):
                if isinstance(node, ast.Call) and isinstance(node.func, ast.Name) and node.func.id == "set":
                    self.assertIn(node, free, (path.name, node.lineno))


if __name__ == "__main__":
    unittest.main()
