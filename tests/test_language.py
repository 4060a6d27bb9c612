"""The package's files keep to the part of Python that the program is written in."""

import ast
import builtins
import keyword
import pathlib
import re
import unittest

PACKAGE = pathlib.Path(__file__).resolve().parent.parent / "viewtables"

OWN_NAMES = set(
    "len range enumerate zip min max sum abs sorted reversed int str bool list tuple dict set frozenset isinstance"
    " ord repr any all divmod Exception ValueError TypeError KeyError IndexError LookupError ZeroDivisionError"
    " ArithmeticError OverflowError RuntimeError NotImplementedError AttributeError StopIteration".split()
)
METHODS = set(
    "append clear copy count endswith extend find get index insert isalnum isalpha isdigit islower isspace isupper"
    " items join keys ljust lower lstrip partition pop remove replace reverse rfind rjust rpartition rsplit rstrip"
    " setdefault split splitlines startswith strip update upper values zfill bit_length".split()
)
SPECIAL = {"__init__", "__eq__", "__repr__", "__str__", "__len__"}
NEVER = set("register mro elements open input version_info with_traceback add_note format format_map".split())
WORDS = re.compile(
    r"\b(type|typing|typing_extensions|enum|Enum|IntEnum|StrEnum|Flag|IntFlag|Generic|Protocol|ABC|ABCMeta"
    r"|namedtuple|NamedTuple|TypedDict|TYPE_CHECKING|abstractmethod)\b|dataclass|overload|contextmanager"
)
FORMS = set(
    "Module Expr FunctionDef ClassDef arguments arg Return Assign AugAssign If While For Break Continue Pass Raise Try"
    " ExceptHandler ImportFrom alias Constant Name Load Store Attribute Subscript Slice Call keyword List Tuple Dict"
    " ListComp comprehension JoinedStr FormattedValue BinOp UnaryOp BoolOp Compare IfExp Lambda Add Sub Mult FloorDiv"
    " Mod Pow BitAnd BitOr BitXor LShift RShift Invert Not USub UAdd And Or Eq NotEq Lt LtE Gt GtE In NotIn Is IsNot"
    .split()
)
PLAIN = ("None", "True", "False")
TOP_FORMS = (ast.ImportFrom, ast.FunctionDef, ast.ClassDef, ast.Assign)


def is_docstring(node):
    return isinstance(node, ast.Expr) and isinstance(node.value, ast.Constant) and isinstance(node.value.value, str)


def text_faults(text):
    for sign in sorted(set(text)):
        if sign != "\n" and not " " <= sign <= "~":
            yield "L14 sign " + repr(sign)
    for word in WORDS.finditer(text):
        yield "L17 word " + word.group()
    if len(text.splitlines()) > 400:
        yield "L10 file"
    if any(len(line) > 120 for line in text.splitlines()):
        yield "L10 line"


def top_faults(tree):
    bound = []
    for node in tree.body:
        if not isinstance(node, TOP_FORMS) and not (node is tree.body[0] and is_docstring(node)):
            yield "L3 top"
        if isinstance(node, ast.Assign):
            bound += [target.id for target in node.targets if isinstance(target, ast.Name)]
            if any(isinstance(part, (ast.Call, ast.BinOp, ast.ListComp)) for part in ast.walk(node.value)):
                yield "L3 value"
            if isinstance(node.value, (ast.List, ast.Dict)):
                yield "L15 a list or dict at the top: written as a tuple here"
        elif isinstance(node, (ast.FunctionDef, ast.ClassDef)):
            bound.append(node.name)
        elif isinstance(node, ast.ImportFrom):
            bound += [alias.asname or alias.name for alias in node.names]
    if len(bound) != len(set(bound)):
        yield "L15 bound twice"
    for name in bound:
        yield from name_faults(name, True)


def function_faults(node):
    if node.end_lineno - node.lineno + 1 > 40:
        yield "L10 function"
    given = node.args
    if node.decorator_list or given.vararg or given.kwarg or given.kwonlyargs or given.posonlyargs:
        yield "L4 function"


def class_faults(node):
    if node.decorator_list or node.keywords or len(node.bases) > 1:
        yield "L5 class"
    for part in node.body:
        if not isinstance(part, (ast.FunctionDef, ast.Pass)) and not is_docstring(part):
            yield "L5 class body"


def name_faults(name, bound):
    if name in NEVER:
        yield "L17 name " + name
    if name.startswith("_") and name not in SPECIAL or keyword.issoftkeyword(name):
        yield "L12 name " + name
    if bound and name in vars(builtins):
        yield "L15 bound " + name
    if not bound and name in vars(builtins) and name not in OWN_NAMES:
        yield "L8 name " + name


def node_faults(node, methods):
    kind = node.__class__.__name__
    if kind not in FORMS:
        yield "L6 L7 form " + kind
    if isinstance(node, ast.FunctionDef):
        yield from function_faults(node)
        yield from name_faults(node.name, False)
    if isinstance(node, ast.ClassDef):
        yield from class_faults(node)
    if isinstance(node, ast.arg):
        yield from name_faults(node.arg, True)
    if isinstance(node, ast.Name):
        yield from name_faults(node.id, isinstance(node.ctx, ast.Store))
    if isinstance(node, ast.Attribute) and (node.attr in NEVER or node.attr.startswith("_")):
        yield "L8 attribute " + node.attr
    if isinstance(node, ast.Call) and isinstance(node.func, ast.Attribute) and node.func.attr not in METHODS | methods:
        yield "L25 method " + node.func.attr
    if isinstance(node, ast.ImportFrom) and (node.level or not node.module.startswith("viewtables.")):
        yield "L2 import"
    if isinstance(node, ast.Constant) and isinstance(node.value, (float, bytes, complex)):
        yield "L7 value"
    if isinstance(node, ast.Assign) and (len(node.targets) != 1 or isinstance(node.targets[0], (ast.Tuple, ast.List))):
        yield "L6 one target"
    if isinstance(node, (ast.For, ast.While)) and node.orelse:
        yield "L6 else behind a loop"
    if isinstance(node, ast.BinOp) and isinstance(node.op, ast.Pow) and not isinstance(node.right, ast.Constant):
        yield "L27 power"
    if isinstance(node, ast.Compare) and any(isinstance(op, (ast.Is, ast.IsNot)) for op in node.ops):
        if not all(isinstance(part, ast.Constant) and repr(part.value) in PLAIN for part in node.comparators):
            yield "L20 is"
    if isinstance(node, ast.ListComp) and (len(node.generators) != 1 or len(node.generators[0].ifs) > 1):
        yield "L7 comprehension"


def kept_and_called(trees):
    """The names of all methods, and of all values that objects keep."""
    methods, values = set(), set()
    for tree in trees:
        for node in ast.walk(tree):
            if isinstance(node, ast.ClassDef):
                methods.update(part.name for part in node.body if isinstance(part, ast.FunctionDef))
            if isinstance(node, ast.Attribute) and isinstance(node.ctx, ast.Store):
                values.add(node.attr)
    return methods, values


def faults(texts):
    trees = [ast.parse(text) for text in texts]
    methods, values = kept_and_called(trees)
    found = ["L18 method and value " + name for name in sorted(methods & values)]
    for text, tree in zip(texts, trees):
        found.extend(text_faults(text))
        found.extend(top_faults(tree))
        for node in ast.walk(tree):
            found.extend(node_faults(node, methods))
    return found


class ThePackage(unittest.TestCase):
    def test_its_files(self):
        names = sorted(path.name for path in PACKAGE.iterdir() if path.name != "__pycache__")
        self.assertIn("__init__.py", names)
        self.assertIn("oneworld.py", names)
        for name in names:
            self.assertRegex(name, r"^(__init__|[a-z][a-z0-9_]*)\.py$")
            self.assertNotRegex(name, r"^(test|site|conftest)")

    def test_it_keeps_to_the_language(self):
        texts = [path.read_bytes().decode("utf-8") for path in sorted(PACKAGE.glob("*.py"))]
        self.assertEqual(faults(texts), [])


class TheCheck(unittest.TestCase):
    def test_it_finds_what_is_outside(self):
        for text in (
            "import math\n", "from math import gcd\n", "from .oneworld import answers\n", "x = 1.5\n", "x = b'a'\n",
            "def f(*a):\n    return a\n", "def f(a):\n    x, y = a\n", "def f(a):\n    x = y = a\n",
            "def f(a):\n    return a / 2\n", "def f(a):\n    return 2 ** a\n", "def f(a):\n    return {b for b in a}\n",
            "def f(a):\n    return open(a)\n", "def f(a):\n    print(a)\n", "def f(a):\n    a.sort()\n",
            "def f(a):\n    with a:\n        pass\n", "def f(a):\n    assert a\n", "def f(a):\n    yield a\n",
            "def f(a):\n    del a[0]\n", "def f(a):\n    for b in a:\n        pass\n    else:\n        pass\n",
            "def f(a):\n\treturn a\n", "def f(a):\n    return a is 3\n", "def f(_):\n    pass\n",
            "def f(id):\n    return id\n", "def f(a):\n    sum = a\n    return sum\n", "x = 1\nx = 2\n", "x = len('a')\n",
            "x = [1]\n", "# an enum\n", "# a\u00e4\n", "x = 1" + " " * 120 + "\n", "x = 1\n" + "\n" * 400,
            "def f(a):\n" + "    a.append(1)\n" * 40, "class A:\n    x = 1\n", "class A(list, dict):\n    pass\n",
            "class A:\n    def b(self):\n        self.b = 1\n", "def f(a):\n    return [b for c in a for b in c]\n",
            "if True:\n    x = 1\n", "def len(a):\n    return 0\n",
            "def f(a):\n    return (b := a)\n", "def f(a):\n    return [*a]\n",
        ):
            with self.subTest(text=text[:60]):
                self.assertNotEqual(faults([text]), [])

    def test_it_lets_the_rest_be(self):
        self.assertEqual(faults(['"""A."""\n\nX = -2\n\n\ndef f(a):\n    return [b + X for b in a if b > 1]\n']), [])
