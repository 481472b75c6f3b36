"""The package's files keep to the part of Python that LANGUAGE.md tells, as far as a walk over them can see."""

import ast
import builtins
import pathlib
import re
import unittest

PACKAGE = pathlib.Path(__file__).resolve().parent.parent / "rowasks"

OWN_NAMES = set(
    "len range enumerate zip min max sum abs sorted reversed int str bool list tuple dict set frozenset isinstance ord"
    " repr any all divmod Exception ValueError TypeError KeyError IndexError LookupError ZeroDivisionError"
    " ArithmeticError OverflowError RuntimeError NotImplementedError AttributeError StopIteration".split())
OWN_METHODS = set(
    "append clear copy count endswith extend find get index insert isalnum isalpha isdigit islower isspace isupper"
    " items join keys ljust lower lstrip partition pop remove replace reverse rfind rjust rpartition rsplit rstrip"
    " setdefault split splitlines startswith strip update upper values zfill bit_length".split())
UNDERSCORED = {"__init__", "__eq__", "__repr__", "__str__", "__len__"}
BANNED_WORDS = re.compile(
    r"\b(type|typing|typing_extensions|enum|Enum|IntEnum|StrEnum|Flag|IntFlag|Generic|Protocol|ABC|ABCMeta|namedtuple"
    r"|NamedTuple|TypedDict|TYPE_CHECKING|abstractmethod)\b|dataclass|overload|contextmanager")
BANNED_NAMES = set("register mro elements open input version_info with_traceback add_note format format_map".split())
ALLOWED_VALUES = set("count index title find get join lower upper split strip copy add".split())
STATEMENTS = (ast.Assign, ast.AugAssign, ast.If, ast.While, ast.For, ast.Return, ast.Break, ast.Continue, ast.Pass,
              ast.Raise, ast.Try, ast.Expr, ast.FunctionDef, ast.ClassDef, ast.ImportFrom)
WALKED_BY = set("list tuple dict sorted sum any all enumerate zip min max".split())
WALKED = set("zip enumerate reversed range".split())
WALKED_METHODS = {"items", "keys", "values"}
KEYWORDS = {"sorted": {"key", "reverse"}, "min": {"key", "default"}, "max": {"key", "default"}, "sum": {"start"},
            "enumerate": {"start"}, "zip": {"strict"}}
KINDS = set("int str bool list tuple dict".split())
TAKEN_AS_YOU_LIKE = {"KeyError", "ZeroDivisionError", "StopIteration"}
TAKEN_ROUND_CALLS = set("int str index remove".split())
BANNED_NODES = (ast.NamedExpr, ast.SetComp, ast.DictComp, ast.GeneratorExp, ast.Starred, ast.Yield, ast.YieldFrom,
                ast.Await, ast.Div, ast.MatMult)


def faults(source):
    """A list of (rule, line) for what stands outside the rules."""
    tree = ast.parse(source)
    found = text_faults(source)
    found += top_faults(tree)
    bound = bound_names(tree)
    methods = {node.name for node in ast.walk(tree) if isinstance(node, ast.FunctionDef)}
    above = {part: node for node in ast.walk(tree) for part in ast.iter_child_nodes(node)}
    for node in ast.walk(tree):
        found += statement_faults(node, tree)
        found += value_faults(node)
        found += name_faults(node, bound, methods)
        found += call_faults(node, above, methods)
        found += handler_faults(node)
    return found


def called(node):
    """The name of what is called, be it a function or a method; None of all else."""
    if not isinstance(node, ast.Call):
        return None
    return node.func.id if isinstance(node.func, ast.Name) else getattr(node.func, "attr", None)


def call_faults(node, above, methods):
    """L22, L23, L24 and L25: Python's own names and methods as they may be called."""
    parent = above.get(node)
    place = getattr(node, "lineno", 0)
    found = []
    if isinstance(node, ast.Call) and any(part.arg not in KEYWORDS.get(called(node), set()) for part in node.keywords):
        found.append(("L22", place))
    if called(node) == "isinstance":
        kinds = node.args[1].elts if isinstance(node.args[1], ast.Tuple) else [node.args[1]]
        found += [("L22", place) for kind in kinds if kind.id not in KINDS and not kind.id[0].isupper()]
    if isinstance(node, ast.Name) and node.id in OWN_NAMES and node.id[0].islower() and not (
            isinstance(parent, ast.Call) and (parent.func is node or called(parent) == "isinstance")
            or isinstance(parent, (ast.keyword, ast.Tuple))):
        found.append(("L22", place))
    walked = isinstance(node, ast.Call) and (isinstance(node.func, ast.Name) and node.func.id in WALKED
                                             or isinstance(node.func, ast.Attribute) and called(node) in WALKED_METHODS)
    if walked and not (isinstance(parent, (ast.For, ast.comprehension)) and parent.iter is node
                       or called(parent) in WALKED_BY and parent.args[0] is node):
        found.append(("L23", place))
    if (called(node) in ("set", "frozenset") or isinstance(node, ast.Set)) and not set_stands_right(node, above):
        found.append(("L24", place))
    read = isinstance(node, ast.Attribute) and isinstance(node.ctx, ast.Load)
    if read and node.attr in OWN_METHODS | methods and not (
            isinstance(parent, ast.Call) and parent.func is node or isinstance(parent, ast.keyword)):
        found.append(("L25", place))
    return found


def set_stands_right(node, above):
    parent = above[node]
    while isinstance(parent, ast.BinOp) and isinstance(parent.op, (ast.Sub, ast.BitAnd, ast.BitOr, ast.BitXor)):
        parent = above[parent]
    return isinstance(parent, ast.Compare) or called(parent) in ("sorted", "len") and not parent.keywords


def handler_faults(node):
    """L19: what may be taken, and round what."""
    if not isinstance(node, ast.Try):
        return []
    found = []
    for handler in node.handlers:
        kinds = handler.type.elts if isinstance(handler.type, ast.Tuple) else [handler.type]
        names = [kind.id for kind in kinds if isinstance(kind, ast.Name)]
        own = [name for name in names if name not in OWN_NAMES or name in TAKEN_AS_YOU_LIKE]
        if len(own) == len(kinds):
            continue
        calls = {called(part) for line in node.body for part in ast.walk(line) if isinstance(part, ast.Call)}
        if not names or not set(names) <= {"ValueError", "LookupError"} or not calls or calls - TAKEN_ROUND_CALLS:
            found.append(("L19", handler.lineno))
    return found


def text_faults(source):
    lines = source.split("\n")
    found = [("L10", 0)] if len(lines) > 401 else []
    for place, line in enumerate(lines, start=1):
        if len(line) > 120:
            found.append(("L10", place))
        if any(not " " <= sign <= "~" for sign in line):
            found.append(("L14", place))
        if BANNED_WORDS.search(line):
            found.append(("L17", place))
    return found


def top_faults(tree):
    allowed = (ast.ImportFrom, ast.FunctionDef, ast.ClassDef, ast.Assign)
    found = [("L3", node.lineno) for node in tree.body[1:] if not isinstance(node, allowed)]
    if ast.get_docstring(tree) is None:
        found.append(("L3", 1))
    names = [name for node in tree.body for name in top_names(node)]
    found += [("L15", 0) for name in set(names) if names.count(name) > 1]
    return found


def top_names(node):
    if isinstance(node, (ast.FunctionDef, ast.ClassDef)):
        return [node.name]
    if isinstance(node, ast.ImportFrom):
        return [part.name for part in node.names]
    return [target.id for target in getattr(node, "targets", []) if isinstance(target, ast.Name)]


def statement_faults(node, tree):
    if isinstance(node, ast.stmt) and not isinstance(node, STATEMENTS):
        return [("L6", node.lineno)]
    if isinstance(node, ast.Expr) and node is not tree.body[0] and not isinstance(node.value, ast.Call):
        return [("L6", node.lineno)]
    if isinstance(node, ast.Assign) and len(node.targets) > 1:
        return [("L6", node.lineno)]
    if isinstance(node, (ast.For, ast.While)) and node.orelse or isinstance(node, ast.Try) and node.finalbody:
        return [("L6", node.lineno)]
    if isinstance(node, ast.ImportFrom) and (node.level or not node.module.startswith("rowasks.")
                                             or any(part.name == "*" or part.asname for part in node.names)):
        return [("L2", node.lineno)]
    if isinstance(node, ast.FunctionDef):
        return function_faults(node)
    if isinstance(node, ast.ClassDef) and (node.decorator_list or len(node.bases) > 1 or node.keywords):
        return [("L5", node.lineno)]
    return []


def function_faults(node):
    found = []
    if node.decorator_list or node.args.vararg or node.args.kwarg or node.args.kwonlyargs or node.args.posonlyargs:
        found.append(("L4", node.lineno))
    if node.end_lineno - node.lineno + 1 > 40:
        found.append(("L10", node.lineno))
    return found


def value_faults(node):
    place = getattr(node, "lineno", 0)
    if isinstance(node, BANNED_NODES):
        return [("L7", place)]
    if isinstance(node, ast.Constant) and isinstance(node.value, (float, complex, bytes)):
        return [("L7", place)]
    if isinstance(node, ast.Constant) and isinstance(node.value, str) and "%" in node.value:
        return [("L27", place)]
    if isinstance(node, ast.ListComp) and (len(node.generators) > 1 or len(node.generators[0].ifs) > 1):
        return [("L7", place)]
    if isinstance(node, ast.FormattedValue) and (not isinstance(node.value, ast.Name) or node.format_spec):
        return [("L7", place)]
    if isinstance(node, ast.Compare):
        sides = [node.left] + node.comparators
        if any(isinstance(sign, (ast.Is, ast.IsNot)) for sign in node.ops) and not any(
                isinstance(side, ast.Constant) and side.value in (None, True, False) for side in sides):
            return [("L20", place)]
    return []


def name_faults(node, bound, methods):
    place = getattr(node, "lineno", 0)
    if isinstance(node, ast.Name):
        if isinstance(node.ctx, ast.Store) and hasattr(builtins, node.id):
            return [("L15", place)]
        if isinstance(node.ctx, ast.Load) and node.id not in bound and node.id not in OWN_NAMES:
            return [("L8", place)]
    if isinstance(node, ast.arg) and hasattr(builtins, node.arg):
        return [("L15", place)]
    if isinstance(node, ast.Call) and isinstance(node.func, ast.Attribute):
        if node.func.attr not in OWN_METHODS | methods:
            return [("L25", place)]
    for name in [getattr(node, part, None) for part in ("id", "attr", "arg", "name")]:
        if isinstance(name, str) and name in BANNED_NAMES:
            return [("L17", place)]
        if isinstance(name, str) and name not in UNDERSCORED and not re.fullmatch("[A-Za-z][A-Za-z0-9_]*", name):
            return [("L12", place)]
    return []


def class_faults(trees):
    """L18 and L26: names that are a method in one class and a value in another, or values named like Python's own."""
    nodes = [node for tree in trees for node in ast.walk(tree)]
    classes = [node for node in nodes if isinstance(node, ast.ClassDef)]
    methods = {part.name for node in classes for part in node.body if isinstance(part, ast.FunctionDef)}
    values = {node.attr for node in nodes if isinstance(node, ast.Attribute) and isinstance(node.ctx, ast.Store)}
    pythons = {name for kind in (str, int, list, dict, set, bytes, tuple) for name in vars(kind)} - ALLOWED_VALUES
    return [("L18", name) for name in sorted(methods & values)] + [("L26", name) for name in sorted(values & pythons)]


def circle_faults(drawn):
    """L16: files, by their names with those they draw from, that draw from one another in whatever many steps."""
    found = []
    for name in sorted(drawn):
        reached = set()
        ahead = list(drawn[name])
        while ahead:
            other = ahead.pop()
            if other not in reached:
                reached.add(other)
                ahead += drawn.get(other, [])
        if name in reached:
            found.append(("L16", name))
    return found


def drawn_faults(trees):
    """L16: a name is drawn from the very file that defines it."""
    defined = {name: {part.name for part in tree.body if isinstance(part, (ast.FunctionDef, ast.ClassDef))}
               | {target.id for part in tree.body if isinstance(part, ast.Assign) for target in part.targets}
               for name, tree in trees.items()}
    rows = [node for tree in trees.values() for node in tree.body if isinstance(node, ast.ImportFrom)]
    return [("L16", part.name) for row in rows for part in row.names
            if part.name not in defined.get(row.module.split(".")[-1], set())]


def bound_names(tree):
    found = {name for node in tree.body for name in top_names(node)}
    for node in ast.walk(tree):
        if isinstance(node, ast.Name) and isinstance(node.ctx, ast.Store):
            found.add(node.id)
        if isinstance(node, ast.arg):
            found.add(node.arg)
        if isinstance(node, ast.ExceptHandler) and node.name:
            found.add(node.name)
    return found


class Package(unittest.TestCase):
    def test_each_file_keeps_to_the_rules(self):
        for path in sorted(PACKAGE.glob("*.py")):
            with self.subTest(path.name):
                self.assertEqual(faults(path.read_text(encoding="utf-8")), [])

    def test_the_files_together_keep_to_the_rules(self):
        trees = {path.stem: ast.parse(path.read_text(encoding="utf-8")) for path in sorted(PACKAGE.glob("*.py"))}
        drawn = {name: [node.module.split(".")[-1] for node in tree.body if isinstance(node, ast.ImportFrom)]
                 for name, tree in trees.items()}
        self.assertEqual(class_faults(trees.values()), [])
        self.assertEqual(circle_faults(drawn), [])
        self.assertEqual(drawn_faults(trees), [])

    def test_nothing_else_lies_in_the_package(self):
        for path in PACKAGE.iterdir():
            if path.name != "__pycache__":
                with self.subTest(path.name):
                    self.assertRegex(path.name, r"^(__init__|[a-z][a-z0-9_]*)\.py$")


class TheCheckItself(unittest.TestCase):
    def test_it_sees_what_stands_outside(self):
        for rule, code in [
                ("L3", "import os"), ("L2", "from rowasks.rows import *"), ("L2", "from .rows import is_row"),
                ("L3", "print(1)"), ("L4", "def f(*xs):\n    return xs"), ("L6", "def f():\n    assert f"),
                ("L6", "def f():\n    'words'\n    return 1"), ("L6", "def f(x):\n    a = b = x\n    return a"),
                ("L7", "def f(x):\n    return x / 2"), ("L7", "def f(xs):\n    return sum(x for x in xs)"),
                ("L7", "X = 1.5"), ("L8", "def f(x):\n    return hash(x)"), ("L10", "X = '" + "a" * 120 + "'"),
                ("L10", "def f(x):\n" + "    x = x + 1\n" * 40), ("L12", "def _f(x):\n    return x"),
                ("L14", "X = '\u00e4'"), ("L15", "def f(min):\n    return min"), ("L15", "X = 1\nX = 2"),
                ("L17", "# a type"), ("L20", "def f(x, y):\n    return x is y"),
                ("L25", "def f(x):\n    return x.title()"), ("L27", "X = '5 %'"),
                ("L19", "def f(x):\n    try:\n        return x[0]\n    except Exception:\n        return 1"),
                ("L19", "def f(x):\n    try:\n        return f(x)\n    except ValueError:\n        return 1"),
                ("L19", "def f(x):\n    try:\n        return f(x)\n    except:\n        return 1"),
                ("L22", "def f(x):\n    return f(x=1)"), ("L22", "def f(x):\n    g = len\n    return g(x)"),
                ("L22", "def f(x):\n    return isinstance(x, set)"),
                ("L23", "def f(x):\n    y = zip(x, x)\n    return y"),
                ("L23", "def f(x):\n    x.extend(x.values())"), ("L24", "def f(x):\n    y = set(x)\n    return y"),
                ("L24", "def f(x):\n    return [y for y in set(x)]"),
                ("L25", "def f(x):\n    y = x.append\n    return y")]:
            with self.subTest(code=code):
                self.assertIn(rule, [fault[0] for fault in faults('"""Words."""\n' + code + "\n")])

    def test_it_sees_what_stands_outside_in_files_together(self):
        one = ast.parse("class A:\n    def end(self):\n        self.kept = 1")
        other = ast.parse("class B:\n    def take(self):\n        self.end = 1\n        self.items = 2")
        self.assertEqual(class_faults([one]), [])
        self.assertEqual(class_faults([one, other]), [("L18", "end"), ("L26", "items")])
        self.assertEqual(circle_faults({"a": ["b"], "b": ["c"], "c": []}), [])
        self.assertEqual(circle_faults({"a": ["b"], "b": ["c"], "c": ["b"]}), [("L16", "b"), ("L16", "c")])
        third = ast.parse("from rowasks.one import A\nfrom rowasks.other import A as a")
        self.assertEqual(drawn_faults({"one": one, "other": other, "third": third}), [("L16", "A")])

    def test_it_lets_stand_what_keeps_to_the_rules(self):
        for code in [
                "return [x + 1 for x in xs if x is not None]", "return sorted(set(xs) | set(f(xs)))",
                "return 1 in set(xs)", "return max(xs, key=len, default=None)", "return sorted(xs.items())",
                "return [x + y for x, y in zip(xs, xs[1:])]", "return isinstance(xs, (int, str))",
                "try:\n        return int(xs)\n    except ValueError:\n        return None"]:
            with self.subTest(code=code):
                self.assertEqual(faults(f'"""Words."""\n\n\ndef f(xs):\n    {code}\n'), [])


if __name__ == "__main__":
    unittest.main()
