"""The package's files keep to the part of Python that LANGUAGE.md tells, as far as a walk over them can see."""

import ast
import builtins
import pathlib
import re
import unittest

PACKAGE = pathlib.Path(__file__).resolve().parent.parent / "rowasks"

OWN_NAMES = set(
    "len range enumerate zip min max sum abs sorted reversed int str bool list tuple dict set frozenset isinstance ord"
    " repr any all divmod Exception ValueError TypeError KeyError IndexError LookupError ZeroDivisionError"
    " ArithmeticError OverflowError RuntimeError NotImplementedError AttributeError StopIteration".split())
OWN_METHODS = set(
    "append clear copy count endswith extend find get index insert isalnum isalpha isdigit islower isspace isupper"
    " items join keys ljust lower lstrip partition pop remove replace reverse rfind rjust rpartition rsplit rstrip"
    " setdefault split splitlines startswith strip update upper values zfill bit_length".split())
UNDERSCORED = {"__init__", "__eq__", "__repr__", "__str__", "__len__"}
BANNED_WORDS = re.compile(
    r"\b(type|typing|typing_extensions|enum|Enum|IntEnum|StrEnum|Flag|IntFlag|Generic|Protocol|ABC|ABCMeta|namedtuple"
    r"|NamedTuple|TypedDict|TYPE_CHECKING|abstractmethod)\b|dataclass|overload|contextmanager")
BANNED_NAMES = set("register mro elements open input version_info with_traceback add_note format format_map".split())
ALLOWED_VALUES = set("count index title find get join lower upper split strip copy add".split())
STATEMENTS = (ast.Assign, ast.AugAssign, ast.If, ast.While, ast.For, ast.Return, ast.Break, ast.Continue, ast.Pass,
              ast.Raise, ast.Try, ast.Expr, ast.FunctionDef, ast.ClassDef, ast.ImportFrom)
BANNED_NODES = (ast.NamedExpr, ast.SetComp, ast.DictComp, ast.GeneratorExp, ast.Starred, ast.Yield, ast.YieldFrom,
                ast.Await, ast.Div, ast.MatMult)


def faults(source):
    """A list of (rule, line) for what stands outside the rules."""
    tree = ast.parse(source)
    found = text_faults(source)
    found += top_faults(tree)
    bound = bound_names(tree)
    methods = {node.name for node in ast.walk(tree) if isinstance(node, ast.FunctionDef)}
    for node in ast.walk(tree):
        found += statement_faults(node, tree)
        found += value_faults(node)
        found += name_faults(node, bound, methods)
    return found


def text_faults(source):
    lines = source.split("\n")
    found = [("L10", 0)] if len(lines) > 401 else []
    for place, line in enumerate(lines, start=1):
        if len(line) > 120:
            found.append(("L10", place))
        if any(not " " <= sign <= "~" for sign in line):
            found.append(("L14", place))
        if BANNED_WORDS.search(line):
            found.append(("L17", place))
    return found


def top_faults(tree):
    allowed = (ast.ImportFrom, ast.FunctionDef, ast.ClassDef, ast.Assign)
    found = [("L3", node.lineno) for node in tree.body[1:] if not isinstance(node, allowed)]
    if ast.get_docstring(tree) is None:
        found.append(("L3", 1))
    names = [name for node in tree.body for name in top_names(node)]
    found += [("L15", 0) for name in set(names) if names.count(name) > 1]
    return found


def top_names(node):
    if isinstance(node, (ast.FunctionDef, ast.ClassDef)):
        return [node.name]
    if isinstance(node, ast.ImportFrom):
        return [part.name for part in node.names]
    return [target.id for target in getattr(node, "targets", []) if isinstance(target, ast.Name)]


def statement_faults(node, tree):
    if isinstance(node, ast.stmt) and not isinstance(node, STATEMENTS):
        return [("L6", node.lineno)]
    if isinstance(node, ast.Expr) and node is not tree.body[0] and not isinstance(node.value, ast.Call):
        return [("L6", node.lineno)]
    if isinstance(node, ast.Assign) and len(node.targets) > 1:
        return [("L6", node.lineno)]
    if isinstance(node, (ast.For, ast.While)) and node.orelse or isinstance(node, ast.Try) and node.finalbody:
        return [("L6", node.lineno)]
    if isinstance(node, ast.ImportFrom) and (node.level or not node.module.startswith("rowasks.")
                                             or any(part.name == "*" or part.asname for part in node.names)):
        return [("L2", node.lineno)]
    if isinstance(node, ast.FunctionDef):
        return function_faults(node)
    if isinstance(node, ast.ClassDef) and (node.decorator_list or len(node.bases) > 1 or node.keywords):
        return [("L5", node.lineno)]
    return []


def function_faults(node):
    found = []
    if node.decorator_list or node.args.vararg or node.args.kwarg or node.args.kwonlyargs or node.args.posonlyargs:
        found.append(("L4", node.lineno))
    if node.end_lineno - node.lineno + 1 > 40:
        found.append(("L10", node.lineno))
    return found


def value_faults(node):
    place = getattr(node, "lineno", 0)
    if isinstance(node, BANNED_NODES):
        return [("L7", place)]
    if isinstance(node, ast.Constant) and isinstance(node.value, (float, complex, bytes)):
        return [("L7", place)]
    if isinstance(node, ast.Constant) and isinstance(node.value, str) and "%" in node.value:
        return [("L27", place)]
    if isinstance(node, ast.ListComp) and (len(node.generators) > 1 or len(node.generators[0].ifs) > 1):
        return [("L7", place)]
    if isinstance(node, ast.FormattedValue) and (not isinstance(node.value, ast.Name) or node.format_spec):
        return [("L7", place)]
    if isinstance(node, ast.Compare):
        sides = [node.left] + node.comparators
        if any(isinstance(sign, (ast.Is, ast.IsNot)) for sign in node.ops) and not any(
                isinstance(side, ast.Constant) and side.value in (None, True, False) for side in sides):
            return [("L20", place)]
    return []


def name_faults(node, bound, methods):
    place = getattr(node, "lineno", 0)
    if isinstance(node, ast.Name):
        if isinstance(node.ctx, ast.Store) and hasattr(builtins, node.id):
            return [("L15", place)]
        if isinstance(node.ctx, ast.Load) and node.id not in bound and node.id not in OWN_NAMES:
            return [("L8", place)]
    if isinstance(node, ast.arg) and hasattr(builtins, node.arg):
        return [("L15", place)]
    if isinstance(node, ast.Call) and isinstance(node.func, ast.Attribute):
        if node.func.attr not in OWN_METHODS | methods:
            return [("L25", place)]
    for name in [getattr(node, part, None) for part in ("id", "attr", "arg", "name")]:
        if isinstance(name, str) and name in BANNED_NAMES:
            return [("L17", place)]
        if isinstance(name, str) and name not in UNDERSCORED and not re.fullmatch("[A-Za-z][A-Za-z0-9_]*", name):
            return [("L12", place)]
    return []


def class_faults(trees):
    """L18 and L26: names that are a method in one class and a value in another, or values named like Python's own."""
    nodes = [node for tree in trees for node in ast.walk(tree)]
    classes = [node for node in nodes if isinstance(node, ast.ClassDef)]
    methods = {part.name for node in classes for part in node.body if isinstance(part, ast.FunctionDef)}
    values = {node.attr for node in nodes if isinstance(node, ast.Attribute) and isinstance(node.ctx, ast.Store)}
    pythons = {name for kind in (str, int, list, dict, set, bytes, tuple) for name in vars(kind)} - ALLOWED_VALUES
    return [("L18", name) for name in sorted(methods & values)] + [("L26", name) for name in sorted(values & pythons)]


def circle_faults(drawn):
    """L16: files, by their names with those they draw from, that draw from one another in whatever many steps."""
    found = []
    for name in sorted(drawn):
        reached = set()
        ahead = list(drawn[name])
        while ahead:
            other = ahead.pop()
            if other not in reached:
                reached.add(other)
                ahead += drawn.get(other, [])
        if name in reached:
            found.append(("L16", name))
    return found


def bound_names(tree):
    found = {name for node in tree.body for name in top_names(node)}
    for node in ast.walk(tree):
        if isinstance(node, ast.Name) and isinstance(node.ctx, ast.Store):
            found.add(node.id)
        if isinstance(node, ast.arg):
            found.add(node.arg)
        if isinstance(node, ast.ExceptHandler) and node.name:
            found.add(node.name)
    return found


class Package(unittest.TestCase):
    def test_each_file_keeps_to_the_rules(self):
        for path in sorted(PACKAGE.glob("*.py")):
            with self.subTest(path.name):
                self.assertEqual(faults(path.read_text(encoding="utf-8")), [])

    def test_the_files_together_keep_to_the_rules(self):
        trees = {path.stem: ast.parse(path.read_text(encoding="utf-8")) for path in sorted(PACKAGE.glob("*.py"))}
        drawn = {name: [node.module.split(".")[-1] for node in tree.body if isinstance(node, ast.ImportFrom)]
                 for name, tree in trees.items()}
        self.assertEqual(class_faults(trees.values()), [])
        self.assertEqual(circle_faults(drawn), [])

    def test_nothing_else_lies_in_the_package(self):
        for path in PACKAGE.iterdir():
            if path.name != "__pycache__":
                with self.subTest(path.name):
                    self.assertRegex(path.name, r"^(__init__|[a-z][a-z0-9_]*)\.py$")


class TheCheckItself(unittest.TestCase):
    def test_it_sees_what_stands_outside(self):
        for rule, code in [
                ("L3", "import os"), ("L2", "from rowasks.rows import *"), ("L2", "from .rows import is_row"),
                ("L3", "print(1)"), ("L4", "def f(*xs):\n    return xs"), ("L6", "def f():\n    assert f"),
                ("L6", "def f():\n    'words'\n    return 1"), ("L6", "def f(x):\n    a = b = x\n    return a"),
                ("L7", "def f(x):\n    return x / 2"), ("L7", "def f(xs):\n    return sum(x for x in xs)"),
                ("L7", "X = 1.5"), ("L8", "def f(x):\n    return hash(x)"), ("L10", "X = '" + "a" * 120 + "'"),
                ("L10", "def f(x):\n" + "    x = x + 1\n" * 40), ("L12", "def _f(x):\n    return x"),
                ("L14", "X = '\u00e4'"), ("L15", "def f(min):\n    return min"), ("L15", "X = 1\nX = 2"),
                ("L17", "# a type"), ("L20", "def f(x, y):\n    return x is y"),
                ("L25", "def f(x):\n    return x.title()"), ("L27", "X = '5 %'")]:
            with self.subTest(code=code):
                self.assertIn(rule, [fault[0] for fault in faults('"""Words."""\n' + code + "\n")])

    def test_it_sees_what_stands_outside_in_files_together(self):
        one = ast.parse("class A:\n    def end(self):\n        self.kept = 1")
        other = ast.parse("class B:\n    def take(self):\n        self.end = 1\n        self.items = 2")
        self.assertEqual(class_faults([one]), [])
        self.assertEqual(class_faults([one, other]), [("L18", "end"), ("L26", "items")])
        self.assertEqual(circle_faults({"a": ["b"], "b": ["c"], "c": []}), [])
        self.assertEqual(circle_faults({"a": ["b"], "b": ["c"], "c": ["b"]}), [("L16", "b"), ("L16", "c")])

    def test_it_lets_stand_what_keeps_to_the_rules(self):
        code = '"""Words."""\n\n\ndef f(xs):\n    return [x + 1 for x in xs if x is not None]\n'
        self.assertEqual(faults(code), [])


if __name__ == "__main__":
    unittest.main()
