"""The package keeps to the small part of Python that it is written in.

Only the rules that can be read off the files one by one are looked at here.
"""

import ast
import builtins
import pathlib
import re
import unittest

PACKAGE = pathlib.Path(__file__).resolve().parent.parent / "likesums"

STATEMENTS = (
    ast.Assign, ast.AugAssign, ast.If, ast.While, ast.For, ast.Return, ast.Break, ast.Continue,
    ast.Pass, ast.Raise, ast.Try, ast.Expr, ast.FunctionDef, ast.ClassDef, ast.ImportFrom,
)
EXPRESSIONS = (
    ast.Constant, ast.Name, ast.List, ast.Tuple, ast.Dict, ast.Set, ast.BinOp, ast.UnaryOp, ast.BoolOp,
    ast.Compare, ast.IfExp, ast.Call, ast.Attribute, ast.Subscript, ast.Slice, ast.ListComp,
    ast.JoinedStr, ast.FormattedValue, ast.Lambda,
)
PYTHONS_OWN = set(
    "len range enumerate zip min max sum abs sorted reversed int str bool list tuple dict set frozenset "
    "isinstance ord repr any all divmod Exception ValueError KeyError IndexError LookupError "
    "ZeroDivisionError ArithmeticError OverflowError RuntimeError NotImplementedError StopIteration".split()
)
METHODS = set(
    "append clear copy count endswith extend find get index insert isalnum isalpha isdigit islower isspace "
    "isupper items join keys ljust lower lstrip partition pop remove replace reverse rfind rjust rpartition "
    "rsplit rstrip setdefault split splitlines startswith strip update upper values zfill bit_length".split()
)
WORDS_OUT = (
    r"\b(type|typing|typing_extensions|enum|Enum|IntEnum|StrEnum|Flag|IntFlag|Generic|Protocol|ABC|ABCMeta|"
    r"namedtuple|NamedTuple|TypedDict|TYPE_CHECKING|abstractmethod)\b|dataclass|overload|contextmanager"
)


def files():
    return sorted(path for path in PACKAGE.rglob("*") if "__pycache__" not in path.parts)


def nodes():
    for path in files():
        for node in ast.walk(ast.parse(path.read_text(encoding="utf-8"))):
            yield f"{path.name}:{getattr(node, 'lineno', 0)}", node


def bound_names(node):
    if isinstance(node, (ast.FunctionDef, ast.ClassDef)):
        return [node.name]
    if isinstance(node, ast.arg):
        return [node.arg]
    if isinstance(node, ast.Name) and isinstance(node.ctx, ast.Store):
        return [node.id]
    return []


class Language(unittest.TestCase):
    def test_there_are_files(self):
        names = [path.name for path in files()]
        for name in ("__init__.py", "errors.py", "boards.py", "moves.py"):
            self.assertIn(name, names)

    def test_files_and_signs(self):
        for path in files():
            self.assertRegex(path.name, r"\A([a-z][a-z0-9_]*|__init__|__main__)\.py\Z")
            self.assertNotIn(path.stem, vars(builtins), path.name)
            text = path.read_text(encoding="utf-8")
            self.assertRegex(text, r"\A[ -~\n]*\Z", path.name)
            self.assertIsNone(re.search(WORDS_OUT, text), path.name)

    def test_sizes(self):
        for path in files():
            lines = path.read_text(encoding="utf-8").split("\n")
            self.assertLessEqual(len(lines), 400, path.name)
            self.assertLessEqual(max(len(line) for line in lines), 120, path.name)
        for place, node in nodes():
            if isinstance(node, ast.FunctionDef):
                self.assertLessEqual(node.end_lineno - node.lineno + 1, 40, place)

    def test_imports_are_the_packages_own(self):
        for place, node in nodes():
            self.assertNotIsInstance(node, ast.Import, place)
            if isinstance(node, ast.ImportFrom):
                self.assertEqual(node.level, 0, place)
                self.assertRegex(node.module, r"\Alikesums\.[a-z_]+\Z", place)
                self.assertNotIn("*", [name.name for name in node.names], place)

    def test_statements_and_expressions(self):
        for place, node in nodes():
            if isinstance(node, ast.stmt):
                self.assertIsInstance(node, STATEMENTS, place)
            if isinstance(node, ast.expr):
                self.assertIsInstance(node, EXPRESSIONS, place)
            if isinstance(node, (ast.For, ast.While)):
                self.assertEqual(node.orelse, [], place)
            if isinstance(node, ast.Try):
                self.assertEqual(node.finalbody, [], place)
            if isinstance(node, ast.Assign):
                self.assertEqual(len(node.targets), 1, place)
            if isinstance(node, ast.ListComp):
                self.assertEqual(len(node.generators), 1, place)
                self.assertLessEqual(len(node.generators[0].ifs), 1, place)
            if isinstance(node, ast.Constant):
                self.assertIsInstance(node.value, (int, str, type(None)), place)
            if isinstance(node, ast.BinOp):
                self.assertNotIsInstance(node.op, (ast.Div, ast.MatMult), place)

    def test_functions_and_classes_are_plain(self):
        for place, node in nodes():
            if isinstance(node, (ast.FunctionDef, ast.ClassDef)):
                self.assertEqual(node.decorator_list, [], place)
            if isinstance(node, ast.ClassDef):
                self.assertLessEqual(len(node.bases), 1, place)
            if isinstance(node, ast.arguments):
                self.assertIsNone(node.vararg or node.kwarg, place)
                self.assertEqual(node.kwonlyargs + node.posonlyargs, [], place)

    def test_names(self):
        for place, node in nodes():
            for name in bound_names(node):
                self.assertRegex(name, r"\A([A-Za-z][A-Za-z0-9_]*|__(init|eq|repr|str|len)__)\Z", place)
                self.assertNotIn(name, vars(builtins), place)
            if isinstance(node, ast.Name) and node.id in vars(builtins):
                self.assertIn(node.id, PYTHONS_OWN, place)

    def test_methods(self):
        own = {node.name for place, node in nodes() if isinstance(node, ast.FunctionDef)}
        for place, node in nodes():
            if isinstance(node, ast.Call) and isinstance(node.func, ast.Attribute):
                self.assertIn(node.func.attr, METHODS | own, place)
