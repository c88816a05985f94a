"""Checks of those rules of LANGUAGE.md that can be seen in the package's files one by one."""

import ast
import builtins
import pathlib
import re
import unittest

PACKAGE = pathlib.Path(__file__).resolve().parent.parent / "unstruck"
PYTHONS_OWN = set(dir(builtins))

STATEMENTS = (
    ast.Assign, ast.AugAssign, ast.If, ast.While, ast.For, ast.Return, ast.Break, ast.Continue, ast.Pass, ast.Raise,
    ast.Try, ast.Expr, ast.FunctionDef, ast.ClassDef, ast.ImportFrom,
)
EXPRESSIONS = (
    ast.Constant, ast.List, ast.Tuple, ast.Dict, ast.Set, ast.BinOp, ast.UnaryOp, ast.BoolOp, ast.Compare, ast.IfExp,
    ast.Call, ast.Attribute, ast.Subscript, ast.Slice, ast.ListComp, ast.JoinedStr, ast.FormattedValue, ast.Lambda,
    ast.Name,
)
BUILT_IN = set(
    "len range enumerate zip min max sum abs sorted reversed int str bool list tuple dict set frozenset isinstance ord"
    " repr any all divmod Exception ValueError TypeError KeyError IndexError LookupError ZeroDivisionError"
    " ArithmeticError OverflowError RuntimeError NotImplementedError AttributeError StopIteration".split()
)
METHODS = set(
    "append clear copy count endswith extend find get index insert isalnum isalpha isdigit islower isspace isupper"
    " items join keys ljust lower lstrip partition pop remove replace reverse rfind rjust rpartition rsplit rstrip"
    " setdefault split splitlines startswith strip update upper values zfill bit_length".split()
)
UNUSED_NAMES = set(
    "register mro elements open input version_info with_traceback add_note attrgetter breakpoint builtins compile"
    " copyright credits delattr dir eval exec exit gc getattr globals hasattr help id importlib license locals"
    " methodcaller os quit setattr super type vars sys format format_map".split()
)
UNUSED_WORDS = re.compile(
    r"\b(type|typing|typing_extensions|enum|Enum|IntEnum|StrEnum|Flag|IntFlag|Generic|Protocol|ABC|ABCMeta|namedtuple"
    r"|NamedTuple|TypedDict|TYPE_CHECKING|abstractmethod)\b|dataclass|overload|contextmanager"
)
UNDERSCORED = ("__init__", "__eq__", "__repr__", "__str__", "__len__")
KEYWORDS = {
    "sorted": ("key", "reverse"), "min": ("key", "default"), "max": ("key", "default"), "sum": ("start",),
    "enumerate": ("start",), "zip": ("strict",),
}
WALKED = ("zip", "enumerate", "reversed", "range", "items", "keys", "values")
CHANGES = ("append", "clear", "extend", "insert", "pop", "remove", "reverse", "setdefault", "update")
WALKERS = ("list", "tuple", "dict", "sorted", "sum", "any", "all", "enumerate", "zip", "join")
PLAIN_VALUES = (
    ast.Constant, ast.List, ast.Tuple, ast.Dict, ast.Name, ast.UnaryOp, ast.USub, ast.expr_context,
)


def python_files():
    return sorted(PACKAGE.rglob("*.py"))


def nodes_of(kind):
    for path in python_files():
        for node in ast.walk(ast.parse(path.read_text(encoding="ascii"))):
            if isinstance(node, kind):
                yield f"{path.name}:{getattr(node, 'lineno', 0)}", node


def trees():
    return [(path.name, ast.parse(path.read_text(encoding="ascii"))) for path in python_files()]


def nodes_with_parents(kind):
    for name, tree in trees():
        for parent in ast.walk(tree):
            for node in ast.iter_child_nodes(parent):
                if isinstance(node, kind):
                    yield f"{name}:{getattr(node, 'lineno', 0)}", node, parent


def called_name(node):
    if not isinstance(node, ast.Call):
        return None
    return node.func.id if isinstance(node.func, ast.Name) else getattr(node.func, "attr", None)


def names_bound(node):
    if isinstance(node, (ast.FunctionDef, ast.ClassDef)):
        return [node.name]
    if isinstance(node, ast.arg):
        return [node.arg]
    if isinstance(node, ast.Name) and isinstance(node.ctx, ast.Store):
        return [node.id]
    return []


def names_walked(node):
    """The names that a loop walks, itself or through another, but not through a copy."""
    if isinstance(node, ast.Name):
        return [node.id]
    if called_name(node) in ("enumerate", "zip", "reversed"):
        return [name for part in node.args for name in names_walked(part)]
    if called_name(node) in ("items", "keys", "values"):
        return names_walked(node.func.value)
    return []


def names_changed(node):
    if called_name(node) in CHANGES and isinstance(node.func, ast.Attribute):
        return [part.id for part in ast.walk(node.func.value) if isinstance(part, ast.Name)]
    if isinstance(node, ast.Subscript) and isinstance(node.ctx, ast.Store):
        return [part.id for part in ast.walk(node.value) if isinstance(part, ast.Name)]
    if isinstance(node, ast.AugAssign) and isinstance(node.target, ast.Name):
        return [node.target.id]
    return []


class Files(unittest.TestCase):
    def test_nothing_but_plain_files(self):
        self.assertTrue((PACKAGE / "__init__.py").is_file())
        for path in PACKAGE.rglob("*"):
            if "__pycache__" in path.parts:
                continue
            self.assertRegex(path.name, r"^[a-z0-9_]+(\.py)?$")
            self.assertFalse(path.stem in PYTHONS_OWN, path)

    def test_signs_sizes_and_words(self):
        for path in python_files():
            lines = path.read_bytes().decode("ascii").split("\n")
            self.assertLessEqual(len(lines), 401, path)
            for number, line in enumerate(lines, start=1):
                where = f"{path.name}:{number}"
                self.assertLessEqual(len(line), 120, where)
                self.assertRegex(line, r"^[ -~]*$", where)
                self.assertIsNone(UNUSED_WORDS.search(line), where)


class Forms(unittest.TestCase):
    def test_statements_and_expressions(self):
        for where, node in nodes_of(ast.stmt):
            self.assertIsInstance(node, STATEMENTS, where)
            self.assertFalse(getattr(node, "orelse", []) and isinstance(node, (ast.For, ast.While)), where)
            self.assertFalse(getattr(node, "finalbody", []), where)
            self.assertFalse(getattr(node, "decorator_list", []), where)
            self.assertEqual(len(getattr(node, "targets", [None])), 1, where)
            if isinstance(node, ast.FunctionDef):
                self.assertLessEqual(node.end_lineno - node.lineno + 1, 40, where)
                self.assertFalse(node.args.vararg or node.args.kwarg or node.args.kwonlyargs, where)
        for where, node in nodes_of(ast.expr):
            self.assertIsInstance(node, EXPRESSIONS, where)
            if isinstance(node, ast.Constant):
                self.assertIsInstance(node.value, (int, str, bool, type(None)), where)
            if isinstance(node, ast.ListComp):
                self.assertEqual(len(node.generators), 1, where)
                self.assertLessEqual(len(node.generators[0].ifs), 1, where)
        for where, node in nodes_of((ast.Div, ast.MatMult)):
            self.fail(where)

    def test_what_stands_by_itself_in_a_function_is_a_call(self):
        for where, node in nodes_of(ast.FunctionDef):
            for part in ast.walk(node):
                if isinstance(part, ast.Expr):
                    self.assertIsInstance(part.value, ast.Call, where)

    def test_class_bodies(self):
        for where, node in nodes_of(ast.ClassDef):
            self.assertLessEqual(len(node.bases), 1, where)
            self.assertEqual(node.keywords, [], where)
            for part in node.body:
                self.assertIsInstance(part, (ast.FunctionDef, ast.Pass), where)

    def test_is_stands_beside_none_and_the_truths(self):
        for where, node in nodes_of(ast.Compare):
            for operator, other in zip(node.ops, node.comparators):
                if isinstance(operator, (ast.Is, ast.IsNot)):
                    self.assertIsInstance(other, ast.Constant, where)
                    self.assertIn(other.value, (None, True, False), where)

    def test_imports(self):
        for where, node in nodes_of(ast.ImportFrom):
            self.assertEqual(node.level, 0, where)
            self.assertTrue(node.module.startswith("unstruck."), where)
            self.assertTrue((PACKAGE / (node.module.split(".")[1] + ".py")).is_file(), where)
            self.assertNotIn("*", [alias.name for alias in node.names], where)

    def test_no_two_files_draw_from_one_another(self):
        drawn = {}
        for path in python_files():
            tree = ast.parse(path.read_text(encoding="ascii"))
            drawn[path.stem] = [n.module.split(".")[1] for n in ast.walk(tree) if isinstance(n, ast.ImportFrom)]
        left = dict(drawn)
        while left:
            free = [name for name in left if not any(other in left for other in left[name])]
            self.assertTrue(free, left)
            for name in free:
                del left[name]


class Classes(unittest.TestCase):
    def test_where_a_class_may_stand(self):
        own = {node.name for where, node in nodes_of(ast.ClassDef)}
        for where, node, parent in nodes_with_parents(ast.Name):
            if node.id in own:
                called = isinstance(parent, ast.Call) and (parent.func is node or called_name(parent) == "isinstance")
                self.assertTrue(called or isinstance(parent, (ast.ClassDef, ast.ExceptHandler, ast.Raise)), where)

    def test_values_are_given_through_a_local_name_and_called_like_none_of_pythons(self):
        pythons = {name for kind in (str, int, list, dict, set, bytes) for name in dir(kind)} | {"args"}
        for where, node in nodes_of(ast.Attribute):
            if isinstance(node.ctx, ast.Store):
                self.assertIsInstance(node.value, ast.Name, where)
                self.assertEqual(node.value.id, node.value.id.lower(), where)
                self.assertNotIn(node.attr, pythons, where)

    def test_no_method_twice_and_none_like_a_value(self):
        values = {node.attr for where, node in nodes_of(ast.Attribute) if isinstance(node.ctx, ast.Store)}
        for where, node in nodes_of(ast.ClassDef):
            methods = [part.name for part in node.body if isinstance(part, ast.FunctionDef)]
            self.assertEqual(len(set(methods)), len(methods), where)
            self.assertEqual(values & set(methods), set(), where)

    def test_a_making_gives_nothing_back(self):
        for where, node in nodes_of(ast.FunctionDef):
            # Of the methods with two underscores the program has no other one.
            self.assertFalse(node.name.startswith("__") and node.name != "__init__", where)
            if node.name == "__init__":
                self.assertFalse([part for part in ast.walk(node) if isinstance(part, ast.Return)], where)


class Errors(unittest.TestCase):
    """The program raises and takes its own errors alone, so that Python's need no rule here."""

    def setUp(self):
        tree = dict(trees())["errors.py"]
        self.own = {node.name for node in tree.body if isinstance(node, ast.ClassDef)}

    def test_raised_by_name_and_made_on_the_spot(self):
        for where, node in nodes_of(ast.Raise):
            self.assertIn(called_name(node.exc), self.own, where)
            self.assertIsNone(node.cause, where)

    def test_taken_by_name(self):
        for where, node in nodes_of(ast.ExceptHandler):
            self.assertIsInstance(node.type, ast.Name, where)
            self.assertIn(node.type.id, self.own, where)

    def test_bases(self):
        for where, node in nodes_of(ast.ClassDef):
            for base in node.bases:
                self.assertIn(base.id, self.own | {"ValueError"}, where)


class Tops(unittest.TestCase):
    def test_what_stands_at_a_files_top(self):
        for name, tree in trees():
            for place, node in enumerate(tree.body):
                where = f"{name}:{node.lineno}"
                if isinstance(node, ast.Expr):
                    self.assertTrue(place == 0 and ast.get_docstring(tree), where)
                elif isinstance(node, ast.Assign):
                    for part in ast.walk(node.value):
                        self.assertIsInstance(part, PLAIN_VALUES, where)
                    within = [part for part in ast.walk(node.value) if isinstance(part, (ast.List, ast.Dict))]
                    self.assertTrue(within in ([], [node.value]), where)
                else:
                    self.assertIsInstance(node, (ast.ImportFrom, ast.FunctionDef, ast.ClassDef), where)

    def test_imports_and_classes_stand_at_the_top_alone(self):
        for where, node, parent in nodes_with_parents((ast.ImportFrom, ast.ClassDef)):
            self.assertIsInstance(parent, ast.Module, where)

    def test_each_name_once_and_no_local_like_an_import_or_class(self):
        for name, tree in trees():
            imported = [alias.name for node in tree.body if isinstance(node, ast.ImportFrom) for alias in node.names]
            classes = [node.name for node in tree.body if isinstance(node, ast.ClassDef)]
            others = [node.name for node in tree.body if isinstance(node, ast.FunctionDef)]
            others += [node.targets[0].id for node in tree.body if isinstance(node, ast.Assign)]
            bound = imported + classes + others
            self.assertEqual(len(set(bound)), len(bound), name)
            for function in [node for node in ast.walk(tree) if isinstance(node, ast.FunctionDef)]:
                for node in ast.walk(function):
                    for local in names_bound(node):
                        self.assertNotIn(local, imported + classes, f"{name}:{node.lineno}")


class Calls(unittest.TestCase):
    def test_no_written_set_and_no_lambda(self):
        for where, node in nodes_of((ast.Set, ast.Lambda)):
            self.fail(where)

    def test_no_annotation(self):
        for where, node in nodes_of(ast.arg):
            self.assertIsNone(node.annotation, where)
        for where, node in nodes_of(ast.FunctionDef):
            self.assertIsNone(node.returns, where)

    def test_keywords(self):
        own = {node.name for where, node in nodes_of(ast.FunctionDef)}
        for where, node in nodes_of(ast.Call):
            for keyword in node.keywords:
                name = called_name(node)
                self.assertTrue(name in own or keyword.arg in KEYWORDS.get(name, ()), where)

    def test_pythons_own_are_called_not_kept(self):
        for where, node, parent in nodes_with_parents(ast.Name):
            if node.id not in BUILT_IN or isinstance(parent, (ast.keyword, ast.ExceptHandler, ast.Raise, ast.ClassDef)):
                continue
            kinds_asked = isinstance(parent, ast.Tuple) or called_name(parent) == "isinstance"
            self.assertTrue(kinds_asked or (isinstance(parent, ast.Call) and parent.func is node), where)

    def test_methods_are_called_where_they_stand(self):
        for where, node, parent in nodes_with_parents(ast.Attribute):
            if node.attr in METHODS:
                self.assertIsInstance(parent, (ast.Call, ast.keyword), where)

    def test_walked_at_once(self):
        for where, node, parent in nodes_with_parents(ast.Call):
            if called_name(node) in WALKED:
                looped = isinstance(parent, (ast.For, ast.comprehension)) and parent.iter is node
                handed = isinstance(parent, ast.Call) and node in parent.args
                first = handed and called_name(parent) in WALKERS
                alone = handed and called_name(parent) in ("min", "max") and len(parent.args) == 1
                self.assertTrue(looped or first or alone, where)

    def test_what_a_loop_walks_is_not_changed_in_it(self):
        for where, node in nodes_of(ast.For):
            walked = names_walked(node.iter)
            for statement in node.body:
                for part in ast.walk(statement):
                    for name in names_changed(part):
                        self.assertNotIn(name, walked, where)

    def test_sets_are_not_kept_and_not_walked(self):
        for where, node, parent in nodes_with_parents((ast.Call, ast.Set)):
            if isinstance(node, ast.Set) or called_name(node) in ("set", "frozenset"):
                asked = isinstance(parent, (ast.Compare, ast.BinOp))
                self.assertTrue(asked or called_name(parent) in ("sorted", "len"), where)

    def test_numbers_and_texts(self):
        for where, node in nodes_of(ast.Constant):
            self.assertNotIn("%", node.value if isinstance(node.value, str) else "", where)
        for where, node in nodes_of(ast.BinOp):
            if isinstance(node.op, ast.Pow):
                self.assertTrue(isinstance(node.right, ast.Constant) and 0 <= node.right.value <= 64, where)
        for path in python_files():
            for escape in re.findall(r"\\(.)", path.read_text(encoding="ascii"), re.DOTALL):
                self.assertIn(escape, "nt\\\"'", path)


class Names(unittest.TestCase):
    def test_bound_names_are_plain_and_not_pythons_own(self):
        for where, node in nodes_of((ast.stmt, ast.expr, ast.arg)):
            for name in names_bound(node):
                if name in UNDERSCORED and isinstance(node, ast.FunctionDef):
                    continue
                self.assertRegex(name, r"^[A-Za-z][A-Za-z0-9_]*$", where)
                self.assertFalse(name in PYTHONS_OWN, f"{where} {name}")

    def test_used_names(self):
        for where, node in nodes_of(ast.Name):
            self.assertNotIn(node.id, UNUSED_NAMES, where)
            if node.id in PYTHONS_OWN:
                self.assertIn(node.id, BUILT_IN, where)

    def test_methods(self):
        own = {node.name for where, node in nodes_of(ast.FunctionDef)}
        for where, node in nodes_of(ast.Attribute):
            self.assertNotIn(node.attr, UNUSED_NAMES, where)
        for where, node in nodes_of(ast.Call):
            if isinstance(node.func, ast.Attribute):
                self.assertIn(node.func.attr, METHODS | own, where)


if __name__ == "__main__":
    unittest.main()
