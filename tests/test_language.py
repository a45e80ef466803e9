"""The package keeps to the small part of Python that it is written in.

Only the rules that can be read off the files one by one are looked at here.
"""

import ast
import builtins
import itertools
import pathlib
import re
import unittest

PACKAGE = pathlib.Path(__file__).resolve().parent.parent / "likesums"

STATEMENTS = (
    ast.Assign, ast.AugAssign, ast.If, ast.While, ast.For, ast.Return, ast.Break, ast.Continue,
    ast.Pass, ast.Raise, ast.Try, ast.Expr, ast.FunctionDef, ast.ClassDef, ast.ImportFrom,
)
EXPRESSIONS = (
    ast.Constant, ast.Name, ast.List, ast.Tuple, ast.Dict, ast.Set, ast.BinOp, ast.UnaryOp, ast.BoolOp,
    ast.Compare, ast.IfExp, ast.Call, ast.Attribute, ast.Subscript, ast.Slice, ast.ListComp,
    ast.JoinedStr, ast.FormattedValue, ast.Lambda,
)
PYTHONS_OWN = set(
    "len range enumerate zip min max sum abs sorted reversed int str bool list tuple dict set frozenset "
    "isinstance ord repr any all divmod Exception ValueError KeyError IndexError LookupError "
    "ZeroDivisionError ArithmeticError OverflowError RuntimeError NotImplementedError StopIteration".split()
)
METHODS = set(
    "append clear copy count endswith extend find get index insert isalnum isalpha isdigit islower isspace "
    "isupper items join keys ljust lower lstrip partition pop remove replace reverse rfind rjust rpartition "
    "rsplit rstrip setdefault split splitlines startswith strip update upper values zfill bit_length".split()
)
NAMES_OUT = set(
    "register mro elements open input version_info with_traceback add_note attrgetter breakpoint builtins compile "
    "copyright credits delattr dir eval exec exit gc getattr globals hasattr help id importlib license locals "
    "methodcaller os quit setattr super type vars sys __name__".split()
)
WORDS_OUT = (
    r"\b(type|typing|typing_extensions|enum|Enum|IntEnum|StrEnum|Flag|IntFlag|Generic|Protocol|ABC|ABCMeta|"
    r"namedtuple|NamedTuple|TypedDict|TYPE_CHECKING|abstractmethod)\b|dataclass|overload|contextmanager"
)


def files():
    return sorted(path for path in PACKAGE.rglob("*") if "__pycache__" not in path.parts)


def nodes():
    for path in files():
        for node in ast.walk(ast.parse(path.read_text(encoding="utf-8"))):
            yield f"{path.name}:{getattr(node, 'lineno', 0)}", node


def bound_names(node):
    if isinstance(node, (ast.FunctionDef, ast.ClassDef)):
        return [node.name]
    if isinstance(node, ast.arg):
        return [node.arg]
    if isinstance(node, ast.Name) and isinstance(node.ctx, ast.Store):
        return [node.id]
    return []


def names_in(node):
    if isinstance(node, ast.Name):
        return [node.id]
    if isinstance(node, ast.Attribute):
        return [node.attr]
    return bound_names(node)


def drawn_from():
    """The modules that each module draws from."""
    drawn = {path.stem: set() for path in files()}
    for path in files():
        for node in ast.parse(path.read_text(encoding="utf-8")).body:
            if isinstance(node, ast.ImportFrom):
                drawn[path.stem].add(node.module.split(".")[1])
    return drawn


class Language(unittest.TestCase):
    def test_there_are_files(self):
        names = [path.name for path in files()]
        for name in ("__init__", "errors", "boards", "moves", "laying", "weaving", "filling"):
            self.assertIn(f"{name}.py", names)

    def test_files_and_signs(self):
        for path in files():
            self.assertRegex(path.name, r"\A([a-z][a-z0-9_]*|__init__|__main__)\.py\Z")
            self.assertNotIn(path.stem, vars(builtins), path.name)
            text = path.read_text(encoding="utf-8")
            self.assertRegex(text, r"\A[ -~\n]*\Z", path.name)
            self.assertIsNone(re.search(WORDS_OUT, text), path.name)

    def test_sizes(self):
        for path in files():
            lines = path.read_text(encoding="utf-8").split("\n")
            self.assertLessEqual(len(lines), 400, path.name)
            self.assertLessEqual(max(len(line) for line in lines), 120, path.name)
        for place, node in nodes():
            if isinstance(node, ast.FunctionDef):
                self.assertLessEqual(node.end_lineno - node.lineno + 1, 40, place)

    def test_imports_are_the_packages_own(self):
        for place, node in nodes():
            self.assertNotIsInstance(node, ast.Import, place)
            if isinstance(node, ast.ImportFrom):
                self.assertEqual(node.level, 0, place)
                self.assertRegex(node.module, r"\Alikesums\.[a-z_]+\Z", place)
                self.assertNotIn("*", [name.name for name in node.names], place)

    def test_statements_and_expressions(self):
        for place, node in nodes():
            if isinstance(node, ast.stmt):
                self.assertIsInstance(node, STATEMENTS, place)
            if isinstance(node, ast.expr):
                self.assertIsInstance(node, EXPRESSIONS, place)
            if isinstance(node, (ast.For, ast.While)):
                self.assertEqual(node.orelse, [], place)
            if isinstance(node, ast.Try):
                self.assertEqual(node.finalbody, [], place)
            if isinstance(node, ast.Assign):
                self.assertEqual(len(node.targets), 1, place)
            if isinstance(node, ast.ListComp):
                self.assertEqual(len(node.generators), 1, place)
                self.assertLessEqual(len(node.generators[0].ifs), 1, place)
            if isinstance(node, ast.Constant):
                self.assertIsInstance(node.value, (int, str, type(None)), place)
            if isinstance(node, ast.BinOp):
                self.assertNotIsInstance(node.op, (ast.Div, ast.MatMult), place)

    def test_functions_and_classes_are_plain(self):
        for place, node in nodes():
            if isinstance(node, (ast.FunctionDef, ast.ClassDef)):
                self.assertEqual(node.decorator_list, [], place)
            if isinstance(node, ast.ClassDef):
                self.assertLessEqual(len(node.bases), 1, place)
            if isinstance(node, ast.arguments):
                self.assertIsNone(node.vararg or node.kwarg, place)
                self.assertEqual(node.kwonlyargs + node.posonlyargs, [], place)

    def test_names(self):
        for place, node in nodes():
            for name in bound_names(node):
                self.assertRegex(name, r"\A([A-Za-z][A-Za-z0-9_]*|__(init|eq|repr|str|len)__)\Z", place)
                self.assertNotIn(name, vars(builtins), place)
            if isinstance(node, ast.Name) and node.id in vars(builtins):
                self.assertIn(node.id, PYTHONS_OWN, place)

    def test_methods(self):
        own = {node.name for place, node in nodes() if isinstance(node, ast.FunctionDef)}
        for place, node in nodes():
            if isinstance(node, ast.Call) and isinstance(node.func, ast.Attribute):
                self.assertIn(node.func.attr, METHODS | own, place)

    def test_names_that_are_not_used(self):
        for place, node in nodes():
            for name in names_in(node):
                self.assertNotIn(name, NAMES_OUT, place)

    def test_is_stands_beside_plain_values_alone(self):
        for place, node in nodes():
            if isinstance(node, ast.Compare) and any(isinstance(op, (ast.Is, ast.IsNot)) for op in node.ops):
                self.assertIsInstance(node.comparators[-1], ast.Constant, place)
                self.assertIn(node.comparators[-1].value, (None, True, False), place)

    def test_no_local_is_called_like_a_name_of_the_top(self):
        for path in files():
            tree = ast.parse(path.read_text(encoding="utf-8"))
            top = [name for part in tree.body for name in bound_names(part)]
            for part in tree.body:
                if isinstance(part, ast.ImportFrom):
                    top.extend(alias.name for alias in part.names)
                if isinstance(part, ast.Assign):
                    top.extend(target.id for target in part.targets)
            self.assertEqual(len(set(top)), len(top), path.name)
            for part in tree.body:
                if isinstance(part, ast.FunctionDef):
                    for node in itertools.chain(*(ast.walk(inner) for inner in [part.args] + part.body)):
                        for name in bound_names(node):
                            self.assertNotIn(name, top, f"{path.name}: {part.name}")

    def test_the_top_of_a_module(self):
        kinds = (ast.FunctionDef, ast.ClassDef, ast.ImportFrom)
        for path in files():
            for place, part in enumerate(ast.parse(path.read_text(encoding="utf-8")).body):
                if isinstance(part, ast.Assign):
                    ast.literal_eval(part.value)
                elif place > 0 or not isinstance(part, ast.Expr):
                    self.assertIsInstance(part, kinds, path.name)

    def test_no_two_modules_draw_from_one_another(self):
        drawn = drawn_from()
        left = set(drawn)
        while left:
            free = {name for name in left if not drawn[name] & left}
            self.assertNotEqual(free, set(), left)
            left -= free

    def test_names_come_from_the_file_that_defines_them(self):
        defined = {}
        for path in files():
            body = ast.parse(path.read_text(encoding="utf-8")).body
            names = [name for part in body for name in bound_names(part)]
            names.extend(target.id for part in body if isinstance(part, ast.Assign) for target in part.targets)
            defined[path.stem] = names
        for place, node in nodes():
            if isinstance(node, ast.ImportFrom):
                for alias in node.names:
                    self.assertIsNone(alias.asname, place)
                    self.assertIn(alias.name, defined[node.module.split(".")[1]], place)
