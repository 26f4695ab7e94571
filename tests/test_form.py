"""Holds the package's files against the rules of the language that a test can see."""

import ast
import builtins
import re
import unittest
from pathlib import Path

PACKAGE = Path(__file__).resolve().parent.parent / "chasefloor"

NODES = (
    ast.Module, ast.ImportFrom, ast.alias, ast.FunctionDef, ast.arguments, ast.arg, ast.ClassDef, ast.Expr,
    ast.Assign, ast.AugAssign, ast.If, ast.While, ast.For, ast.Return, ast.Break, ast.Continue, ast.Pass, ast.Raise,
    ast.Try, ast.ExceptHandler, ast.Constant, ast.List, ast.Tuple, ast.Dict, ast.BinOp, ast.UnaryOp, ast.BoolOp,
    ast.Compare, ast.IfExp, ast.Call, ast.keyword, ast.Attribute, ast.Subscript, ast.Slice, ast.ListComp,
    ast.comprehension, ast.JoinedStr, ast.FormattedValue, ast.Lambda, ast.Name, ast.expr_context, ast.operator,
    ast.unaryop, ast.boolop, ast.cmpop,
)
OWN_NAMES_OF_PYTHON = set(
    "len range enumerate zip min max sum abs sorted reversed int str bool list tuple dict set frozenset isinstance ord"
    " repr any all divmod ValueError KeyError IndexError LookupError ZeroDivisionError ArithmeticError OverflowError"
    " RuntimeError NotImplementedError StopIteration Exception".split()
)
METHODS = set(
    "append clear copy count endswith extend find get index insert isalnum isalpha isdigit islower isspace isupper"
    " items join keys ljust lower lstrip partition pop remove replace reverse rfind rjust rpartition rsplit rstrip"
    " setdefault split splitlines startswith strip update upper values zfill bit_length".split()
)
WALKED = {"zip", "enumerate", "reversed", "range", "items", "keys", "values"}
WALKERS = {"list", "tuple", "dict", "sorted", "sum", "any", "all", "enumerate", "zip", "min", "max", "join"}
DUNDERS = {"__init__", "__eq__", "__repr__", "__str__", "__len__"}
WORDS = re.compile(
    r"\b(type|typing|typing_extensions|enum|Enum|IntEnum|StrEnum|Flag|IntFlag|Generic|Protocol|ABC|ABCMeta|namedtuple"
    r"|NamedTuple|TypedDict|TYPE_CHECKING|abstractmethod)\b|dataclass|overload|contextmanager"
)
UNUSED = set("register mro elements open input version_info with_traceback add_note format format_map".split())


def files():
    return sorted(PACKAGE.rglob("*.py"))


def own_methods():
    trees = [ast.parse(path.read_text()) for path in files()]
    classes = [node for tree in trees for node in tree.body if isinstance(node, ast.ClassDef)]
    return {part.name for node in classes for part in node.body if isinstance(part, ast.FunctionDef)}


def faults_of_text(text):
    lines = text.split("\n")
    if len(lines) > 401:
        yield "L10 a file of more than 400 lines"
    for number, row in enumerate(lines, 1):
        if len(row) > 120:
            yield f"L10 a long line, {number}"
        if not all(" " <= sign <= "~" for sign in row):
            yield f"L14 a sign, {number}"
        if WORDS.search(row):
            yield f"L17 a word, {number}"


def called_name(node):
    if isinstance(node, ast.Call):
        return node.func.id if isinstance(node.func, ast.Name) else getattr(node.func, "attr", None)
    return None


def faults_of_node(node, parents, methods):
    parent = parents.get(node)
    if not isinstance(node, NODES):
        yield "L6, L7 a form that is not used"
    if isinstance(node, ast.Expr) and not isinstance(node.value, ast.Call):
        if not (isinstance(parent, ast.Module) and parent.body[0] is node):
            yield "L6 an expression by itself"
    if isinstance(node, ast.FunctionDef):
        if node.end_lineno - node.lineno >= 40:
            yield "L10 a long function"
        if node.decorator_list or node.returns or node.args.vararg or node.args.kwarg or node.args.kwonlyargs:
            yield "L4 a function's form"
    if isinstance(node, ast.arg) and node.annotation:
        yield "L21 an annotation"
    if isinstance(node, ast.ClassDef):
        if node.decorator_list or node.keywords or len(node.bases) > 1 or not isinstance(parent, ast.Module):
            yield "L5 a class's form"
        if not all(isinstance(part, (ast.FunctionDef, ast.Pass)) for part in node.body):
            yield "L5 a class's body"
    if isinstance(node, ast.Assign) and len(node.targets) > 1:
        yield "L6 several targets"
    if isinstance(node, (ast.For, ast.While)) and node.orelse:
        yield "L6 else behind a loop"
    if isinstance(node, ast.Try) and node.finalbody:
        yield "L6 finally"
    if isinstance(node, (ast.Div, ast.MatMult)):
        yield "L7 an operator"
    if isinstance(node, ast.BinOp) and isinstance(node.op, ast.Pow) and not isinstance(node.right, ast.Constant):
        yield "L27 an exponent"
    if isinstance(node, ast.Constant):
        if not (node.value is None or isinstance(node.value, (bool, int, str))):
            yield "L7 a value"
        if isinstance(node.value, str) and "%" in node.value:
            yield "L27 a sign in a text"
    if isinstance(node, ast.FormattedValue):
        if not isinstance(node.value, ast.Name) or node.conversion not in (-1, ord("r")) or node.format_spec:
            yield "L7 an f-string"
    if isinstance(node, ast.ListComp):
        if len(node.generators) > 1 or len(node.generators[0].ifs) > 1:
            yield "L7 a comprehension"
    if isinstance(node, ast.Compare) and any(isinstance(op, (ast.Is, ast.IsNot)) for op in node.ops):
        sides = [node.left] + node.comparators
        if not any(isinstance(side, ast.Constant) and repr(side.value) in ("None", "True", "False") for side in sides):
            yield "L20 is"
    if isinstance(node, ast.Call) and isinstance(node.func, ast.Attribute):
        if node.func.attr not in METHODS | methods:
            yield "L25 a method"
    if called_name(node) in WALKED:
        walked = isinstance(parent, (ast.For, ast.comprehension)) and parent.iter is node
        if not walked and called_name(parent) not in WALKERS:
            yield "L23 not walked at once"
    if called_name(node) in ("set", "frozenset"):
        yield "L24 a set (of its right places the package uses none)"
    if isinstance(node, ast.ExceptHandler) and (node.type is None or ast.unparse(node.type) in ("Exception", "TypeError")):
        yield "L19 a handler"
    if isinstance(node, ast.Raise) and not isinstance(node.exc, ast.Call):
        yield "L19 raise makes its error on the spot"


def names_bound(node):
    if isinstance(node, (ast.FunctionDef, ast.ClassDef)):
        return [node.name]
    if isinstance(node, ast.arg):
        return [node.arg]
    if isinstance(node, ast.Name) and isinstance(node.ctx, ast.Store):
        return [node.id]
    if isinstance(node, ast.Attribute):
        return [node.attr]
    return []


def faults_of_names(tree):
    top = [name for node in tree.body for part in ast.iter_child_nodes(node) for name in names_bound(part)
           if isinstance(node, ast.Assign)]
    top += [node.name for node in tree.body if isinstance(node, (ast.FunctionDef, ast.ClassDef))]
    if len(set(top)) < len(top):
        yield "L15 a name bound twice"
    fixed = {node.name for node in tree.body if isinstance(node, ast.ClassDef)}
    fixed |= {alias.name for node in tree.body if isinstance(node, ast.ImportFrom) for alias in node.names}
    for node in ast.walk(tree):
        for name in names_bound(node):
            if not re.fullmatch(r"[A-Za-z][A-Za-z0-9_]*", name) and name not in DUNDERS:
                yield f"L12 {name}"
            if name in UNUSED:
                yield f"L17 {name}"
            if not isinstance(node, ast.Attribute) and name in dir(builtins):
                yield f"L15 {name}"
            if isinstance(node, (ast.arg, ast.Name)) and name in fixed:
                yield f"L15 {name}"
        if isinstance(node, ast.Name) and isinstance(node.ctx, ast.Load):
            if node.id in dir(builtins) and node.id not in OWN_NAMES_OF_PYTHON:
                yield f"L8 {node.id}"


def faults(text, methods=frozenset()):
    tree = ast.parse(text)
    parents = {child: node for node in ast.walk(tree) for child in ast.iter_child_nodes(node)}
    found = list(faults_of_text(text)) + list(faults_of_names(tree))
    for node in ast.walk(tree):
        found += [f"{fault}, line {getattr(node, 'lineno', 0)}" for fault in faults_of_node(node, parents, methods)]
    return found


def imports(path):
    tree = ast.parse(path.read_text())
    return [node for node in ast.walk(tree) if isinstance(node, (ast.Import, ast.ImportFrom))]


class FormTest(unittest.TestCase):
    def test_nothing_but_plainly_named_files_lies_in_the_package(self):
        self.assertTrue((PACKAGE / "__init__.py").is_file())
        for path in PACKAGE.iterdir():
            if path.name != "__pycache__":
                self.assertRegex(path.name, r"^([a-z][a-z0-9_]*|__init__)\.py$")

    def test_the_files_keep_to_the_rules(self):
        methods = own_methods()
        for path in files():
            self.assertEqual(faults(path.read_text(), methods), [], path.name)

    def test_names_are_drawn_from_the_file_that_defines_them(self):
        for path in files():
            for node in imports(path):
                self.assertIsInstance(node, ast.ImportFrom)
                self.assertEqual(node.level, 0)
                self.assertRegex(node.module, r"^chasefloor\.[a-z][a-z0-9_]*$")
                drawn = ast.parse((PACKAGE / (node.module.split(".")[1] + ".py")).read_text())
                defined = {part.name for part in drawn.body if isinstance(part, (ast.FunctionDef, ast.ClassDef))}
                defined |= {name for part in drawn.body if isinstance(part, ast.Assign)
                            for name in names_bound(part.targets[0])}
                self.assertLessEqual({alias.name for alias in node.names}, defined)
                self.assertEqual([alias.asname for alias in node.names if alias.asname], [])

    def test_no_two_files_draw_from_one_another(self):
        draws = {path.stem: {node.module.split(".")[1] for node in imports(path)} for path in files()}
        self.assertEqual(draws["__init__"], set())
        while draws:
            ready = [name for name in draws if not draws[name] & set(draws)]
            self.assertNotEqual(ready, [], "a circle of imports")
            for name in ready:
                draws.pop(name)


class FaultsTest(unittest.TestCase):
    def test_what_the_rules_leave_out_is_seen(self):
        for text in (
            "def f(a):\n    return a / 2\n", "def f(*a):\n    return a\n", "def f(a):\n    yield a\n",
            "def f(a):\n    return [x for y in a for x in y]\n", "def f(a):\n    return {x for x in a}\n",
            "def f(a):\n    return print(a)\n", "def f(a):\n    a.sort()\n", "def f(hash):\n    return hash\n",
            "def f(a):\n    b = c = a\n", "def f(a):\n    b = range(a)\n    return b\n", "x = 1.5\n", "import os\n",
            "def f(a):\n    return a is 1\n", "def _f(a):\n    return a\n", "def f(a: int):\n    return a\n",
            "class A:\n    x = 1\n", "def f(a):\n    'said'\n    return a\n", "# the type\n", "x = 1\nx = 2\n",
            "def f(a):\n    return f'{a + 1}'\n", "def f(a):\n    assert a\n", "def f(a):\n    return 2 ** a\n",
            "def f(a):\n" + "    a = 1\n" * 40, "x = '" + "a" * 120 + "'\n", "# \u00e4\n", "#\ta\n",
        ):
            with self.subTest(text):
                self.assertNotEqual(faults(text), [])

    def test_what_the_rules_allow_is_not_held_to_be_a_fault(self):
        text = "def f(a, b=1):\n    for k in range(len(a)):\n        b = b + sum([c for c in a if c > k])\n    return b\n"
        self.assertEqual(faults(text), [])
