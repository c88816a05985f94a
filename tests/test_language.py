"""Checks of those rules of LANGUAGE.md that can be seen in the package's files one by one."""

import ast
import builtins
import pathlib
import re
import unittest

PACKAGE = pathlib.Path(__file__).resolve().parent.parent / "unstruck"
PYTHONS_OWN = set(dir(builtins))

STATEMENTS = (
    ast.Assign, ast.AugAssign, ast.If, ast.While, ast.For, ast.Return, ast.Break, ast.Continue, ast.Pass, ast.Raise,
    ast.Try, ast.Expr, ast.FunctionDef, ast.ClassDef, ast.ImportFrom,
)
EXPRESSIONS = (
    ast.Constant, ast.List, ast.Tuple, ast.Dict, ast.Set, ast.BinOp, ast.UnaryOp, ast.BoolOp, ast.Compare, ast.IfExp,
    ast.Call, ast.Attribute, ast.Subscript, ast.Slice, ast.ListComp, ast.JoinedStr, ast.FormattedValue, ast.Lambda,
    ast.Name,
)
BUILT_IN = set(
    "len range enumerate zip min max sum abs sorted reversed int str bool list tuple dict set frozenset isinstance ord"
    " repr any all divmod Exception ValueError TypeError KeyError IndexError LookupError ZeroDivisionError"
    " ArithmeticError OverflowError RuntimeError NotImplementedError AttributeError StopIteration".split()
)
METHODS = set(
    "append clear copy count endswith extend find get index insert isalnum isalpha isdigit islower isspace isupper"
    " items join keys ljust lower lstrip partition pop remove replace reverse rfind rjust rpartition rsplit rstrip"
    " setdefault split splitlines startswith strip update upper values zfill bit_length".split()
)
UNUSED_NAMES = set(
    "register mro elements open input version_info with_traceback add_note attrgetter breakpoint builtins compile"
    " copyright credits delattr dir eval exec exit gc getattr globals hasattr help id importlib license locals"
    " methodcaller os quit setattr super type vars sys format format_map".split()
)
UNUSED_WORDS = re.compile(
    r"\b(type|typing|typing_extensions|enum|Enum|IntEnum|StrEnum|Flag|IntFlag|Generic|Protocol|ABC|ABCMeta|namedtuple"
    r"|NamedTuple|TypedDict|TYPE_CHECKING|abstractmethod)\b|dataclass|overload|contextmanager"
)
UNDERSCORED = ("__init__", "__eq__", "__repr__", "__str__", "__len__")


def python_files():
    return sorted(PACKAGE.rglob("*.py"))


def nodes_of(kind):
    for path in python_files():
        for node in ast.walk(ast.parse(path.read_text(encoding="ascii"))):
            if isinstance(node, kind):
                yield f"{path.name}:{getattr(node, 'lineno', 0)}", node


def names_bound(node):
    if isinstance(node, (ast.FunctionDef, ast.ClassDef)):
        return [node.name]
    if isinstance(node, ast.arg):
        return [node.arg]
    if isinstance(node, ast.Name) and isinstance(node.ctx, ast.Store):
        return [node.id]
    return []


class Files(unittest.TestCase):
    def test_nothing_but_plain_files(self):
        self.assertTrue((PACKAGE / "__init__.py").is_file())
        for path in PACKAGE.rglob("*"):
            if "__pycache__" in path.parts:
                continue
            self.assertRegex(path.name, r"^[a-z0-9_]+(\.py)?$")
            self.assertFalse(path.stem in PYTHONS_OWN, path)

    def test_signs_sizes_and_words(self):
        for path in python_files():
            lines = path.read_bytes().decode("ascii").split("\n")
            self.assertLessEqual(len(lines), 401, path)
            for number, line in enumerate(lines, start=1):
                where = f"{path.name}:{number}"
                self.assertLessEqual(len(line), 120, where)
                self.assertRegex(line, r"^[ -~]*$", where)
                self.assertIsNone(UNUSED_WORDS.search(line), where)


class Forms(unittest.TestCase):
    def test_statements_and_expressions(self):
        for where, node in nodes_of(ast.stmt):
            self.assertIsInstance(node, STATEMENTS, where)
            self.assertFalse(getattr(node, "orelse", []) and isinstance(node, (ast.For, ast.While)), where)
            self.assertFalse(getattr(node, "finalbody", []), where)
            self.assertFalse(getattr(node, "decorator_list", []), where)
            self.assertEqual(len(getattr(node, "targets", [None])), 1, where)
            if isinstance(node, ast.FunctionDef):
                self.assertLessEqual(node.end_lineno - node.lineno + 1, 40, where)
                self.assertFalse(node.args.vararg or node.args.kwarg or node.args.kwonlyargs, where)
        for where, node in nodes_of(ast.expr):
            self.assertIsInstance(node, EXPRESSIONS, where)
            if isinstance(node, ast.Constant):
                self.assertIsInstance(node.value, (int, str, bool, type(None)), where)
            if isinstance(node, ast.ListComp):
                self.assertEqual(len(node.generators), 1, where)
                self.assertLessEqual(len(node.generators[0].ifs), 1, where)
        for where, node in nodes_of((ast.Div, ast.MatMult)):
            self.fail(where)

    def test_is_stands_beside_none_and_the_truths(self):
        for where, node in nodes_of(ast.Compare):
            for operator, other in zip(node.ops, node.comparators):
                if isinstance(operator, (ast.Is, ast.IsNot)):
                    self.assertIsInstance(other, ast.Constant, where)
                    self.assertIn(other.value, (None, True, False), where)

    def test_imports(self):
        for where, node in nodes_of(ast.ImportFrom):
            self.assertEqual(node.level, 0, where)
            self.assertTrue(node.module.startswith("unstruck."), where)
            self.assertTrue((PACKAGE / (node.module.split(".")[1] + ".py")).is_file(), where)
            self.assertNotIn("*", [alias.name for alias in node.names], where)

    def test_no_two_files_draw_from_one_another(self):
        drawn = {}
        for path in python_files():
            tree = ast.parse(path.read_text(encoding="ascii"))
            drawn[path.stem] = [n.module.split(".")[1] for n in ast.walk(tree) if isinstance(n, ast.ImportFrom)]
        left = dict(drawn)
        while left:
            free = [name for name in left if not any(other in left for other in left[name])]
            self.assertTrue(free, left)
            for name in free:
                del left[name]


class Names(unittest.TestCase):
    def test_bound_names_are_plain_and_not_pythons_own(self):
        for where, node in nodes_of((ast.stmt, ast.expr, ast.arg)):
            for name in names_bound(node):
                if name in UNDERSCORED and isinstance(node, ast.FunctionDef):
                    continue
                self.assertRegex(name, r"^[A-Za-z][A-Za-z0-9_]*$", where)
                self.assertFalse(name in PYTHONS_OWN, f"{where} {name}")

    def test_used_names(self):
        for where, node in nodes_of(ast.Name):
            self.assertNotIn(node.id, UNUSED_NAMES, where)
            if node.id in PYTHONS_OWN:
                self.assertIn(node.id, BUILT_IN, where)

    def test_methods(self):
        own = {node.name for where, node in nodes_of(ast.FunctionDef)}
        for where, node in nodes_of(ast.Attribute):
            self.assertNotIn(node.attr, UNUSED_NAMES, where)
        for where, node in nodes_of(ast.Call):
            if isinstance(node.func, ast.Attribute):
                self.assertIn(node.func.attr, METHODS | own, where)


if __name__ == "__main__":
    unittest.main()
