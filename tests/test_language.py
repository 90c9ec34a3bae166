"""Holds the package's files to those rules of the language part that can be read off a syntax tree."""

import ast
import builtins
import pathlib
import re
import unittest

PACKAGE = pathlib.Path(__file__).resolve().parent.parent / "creasecurve"

NODES = """Module Expr Assign AugAssign If While For Return Break Continue Pass Raise Try ExceptHandler
FunctionDef ClassDef Lambda arguments arg ImportFrom alias Import Call keyword Attribute Subscript Slice Name
Constant List Tuple Dict Set ListComp comprehension JoinedStr FormattedValue BinOp UnaryOp BoolOp Compare IfExp
Load Store Add Sub Mult FloorDiv Mod Pow BitAnd BitOr BitXor LShift RShift USub UAdd Invert Not And Or
Eq NotEq Lt LtE Gt GtE Is IsNot In NotIn""".split()
TOP_NODES = (ast.ImportFrom, ast.FunctionDef, ast.ClassDef, ast.Assign)
PYTHON_NAMES = """len range enumerate zip min max sum abs sorted reversed int str bool list tuple dict set
frozenset isinstance ord repr any all divmod Exception ValueError TypeError KeyError IndexError LookupError
ZeroDivisionError ArithmeticError OverflowError RuntimeError NotImplementedError StopIteration""".split()
METHODS = """append clear copy count endswith extend find get index insert isalnum isalpha isdigit islower isspace
isupper items join keys ljust lower lstrip partition pop remove replace reverse rfind rjust rpartition rsplit rstrip
setdefault split splitlines startswith strip update upper values zfill bit_length __init__""".split()
DUNDERS = ["__init__", "__eq__", "__repr__", "__str__", "__len__"]
UNUSED_NAMES = """register mro elements open input version_info with_traceback add_note attrgetter breakpoint builtins
compile copyright credits delattr dir eval exec exit gc getattr globals hasattr help id importlib license locals
methodcaller os quit setattr super type vars sys""".split()
UNUSED_WORDS = re.compile(
    r"\b(type|typing|typing_extensions|enum|Enum|IntEnum|StrEnum|Flag|IntFlag|Generic|Protocol|ABC|ABCMeta"
    r"|namedtuple|NamedTuple|TypedDict|TYPE_CHECKING|abstractmethod)\b|dataclass|overload|contextmanager"
)
TAKEN_NAMES = [name for name in dir(builtins) if not name.startswith("_")] + UNUSED_NAMES
PLAIN_NAME = re.compile(r"[A-Za-z][A-Za-z0-9_]*")


def text_faults(text):
    faults = []
    rows = text.split("\n")
    if len(rows) > 401:
        faults.append("L10: more than 400 rows")
    for number, row in enumerate(rows, start=1):
        if len(row) > 120:
            faults.append(f"L10: row {number} is too long")
        if re.search(r"[^ -~]", row):
            faults.append(f"L14: a sign in row {number}")
        if UNUSED_WORDS.search(row):
            faults.append(f"L17: a word in row {number}")
    return faults


def top_faults(tree):
    faults = []
    bound = []
    for place, node in enumerate(tree.body):
        if place == 0 and isinstance(node, ast.Expr) and isinstance(node.value, ast.Constant):
            continue
        if not isinstance(node, TOP_NODES):
            faults.append(f"L3: row {node.lineno}")
        bound.extend(names_bound(node))
    if len(bound) != len(set(bound)):
        faults.append("L15: a name is bound twice at the top")
    return faults


def names_bound(node):
    if isinstance(node, ast.ImportFrom):
        return [name.asname or name.name for name in node.names]
    if isinstance(node, (ast.FunctionDef, ast.ClassDef)):
        return [node.name]
    if isinstance(node, ast.Assign):
        return [name.id for name in ast.walk(node.targets[0]) if isinstance(name, ast.Name)]
    return []


def names_given(node):
    if isinstance(node, ast.Name) and isinstance(node.ctx, ast.Store):
        return [node.id]
    if isinstance(node, ast.arg):
        return [node.arg]
    if isinstance(node, (ast.FunctionDef, ast.ClassDef)):
        return [node.name]
    return []


def node_faults(node, top_names, own_methods):
    faults = []
    if type(node).__name__ not in NODES:
        faults.append("L6, L7: " + type(node).__name__)
    for name in names_given(node):
        if not PLAIN_NAME.fullmatch(name) and name not in DUNDERS:
            faults.append("L12: " + name)
        if name in TAKEN_NAMES:
            faults.append("L15, L17: " + name)
    if isinstance(node, ast.Name) and node.id not in top_names:
        if node.id in TAKEN_NAMES and node.id not in PYTHON_NAMES:
            faults.append("L8: " + node.id)
    if isinstance(node, ast.Call) and isinstance(node.func, ast.Attribute):
        if node.func.attr not in METHODS and node.func.attr not in own_methods:
            faults.append("L25: " + node.func.attr)
    return faults + form_faults(node)


def form_faults(node):
    faults = []
    if isinstance(node, (ast.FunctionDef, ast.ClassDef)) and node.decorator_list:
        faults.append("L4, L5: a decorator")
    if isinstance(node, ast.FunctionDef) and node.end_lineno - node.lineno >= 40:
        faults.append("L10: " + node.name + " is too long")
    if isinstance(node, ast.arguments) and (node.vararg or node.kwarg or node.kwonlyargs or node.posonlyargs):
        faults.append("L4: parameters")
    if isinstance(node, ast.ClassDef):
        if len(node.bases) > 1 or not all(isinstance(row, (ast.FunctionDef, ast.Pass)) for row in node.body):
            faults.append("L5: " + node.name)
    if isinstance(node, ast.Assign) and len(node.targets) != 1:
        faults.append("L6: two targets")
    if isinstance(node, (ast.While, ast.For)) and node.orelse:
        faults.append("L6: else behind a loop")
    if isinstance(node, ast.Try) and node.finalbody:
        faults.append("L6: finally")
    if isinstance(node, ast.Constant) and not isinstance(node.value, (int, str, type(None))):
        faults.append("L7: a value")
    if isinstance(node, ast.ListComp) and (len(node.generators) > 1 or len(node.generators[0].ifs) > 1):
        faults.append("L7: a comprehension")
    return faults


WALKED_CALLS = ["zip", "enumerate", "reversed", "range"]
WALKED_METHODS = ["items", "keys", "values"]
WALKERS = ["list", "tuple", "dict", "sorted", "sum", "any", "all", "enumerate", "zip"]


def called(node):
    return node.func.id if isinstance(node, ast.Call) and isinstance(node.func, ast.Name) else ""


def is_walked_thing(node):
    if isinstance(node, ast.Call) and isinstance(node.func, ast.Attribute):
        return node.func.attr in WALKED_METHODS
    return called(node) in WALKED_CALLS


def is_walked_by(node, parent):
    if isinstance(parent, (ast.For, ast.comprehension)):
        return parent.iter is node
    if called(parent) in WALKERS:
        return parent.args[0] is node
    return called(parent) in ("min", "max") and parent.args == [node]


def is_set(node):
    return isinstance(node, ast.Set) or called(node) in ("set", "frozenset")


def is_asked_set(node, parent):
    if isinstance(parent, ast.BinOp):
        return True
    if isinstance(parent, ast.Compare):
        return all(isinstance(sign, (ast.In, ast.NotIn, ast.Eq, ast.NotEq)) for sign in parent.ops)
    return called(parent) in ("sorted", "len") and not parent.keywords


def is_sole(node):
    return isinstance(node, ast.Constant) and any(node.value is value for value in (None, True, False))


def place_faults(tree):
    faults = []
    for parent in ast.walk(tree):
        if isinstance(parent, ast.Compare) and any(isinstance(sign, (ast.Is, ast.IsNot)) for sign in parent.ops):
            if not any(is_sole(node) for node in [parent.left] + parent.comparators):
                faults.append("L20: is")
        for node in ast.iter_child_nodes(parent):
            if is_walked_thing(node) and not is_walked_by(node, parent):
                faults.append(f"L23: row {node.lineno}")
            if is_set(node) and not is_asked_set(node, parent):
                faults.append(f"L24: row {node.lineno}")
    return faults


def shadow_faults(tree):
    makers = [node for node in tree.body if isinstance(node, (ast.ImportFrom, ast.ClassDef))]
    taken = [name for node in makers for name in names_bound(node)]
    given = [name for node in ast.walk(tree) if isinstance(node, (ast.Name, ast.arg)) for name in names_given(node)]
    return ["L15: " + name for name in given if name in taken]


def is_plain(node):
    if isinstance(node, (ast.List, ast.Tuple)):
        return all(is_plain(part) for part in node.elts)
    if isinstance(node, ast.Dict):
        return all(is_plain(part) for part in node.keys + node.values)
    return isinstance(node, ast.Constant)


def kept_faults(tree):
    faults = []
    for node in tree.body:
        if isinstance(node, ast.Assign):
            inner = [part for part in ast.walk(node.value) if part is not node.value]
            if not is_plain(node.value):
                faults.append(f"L3: row {node.lineno}")
            if any(isinstance(part, (ast.List, ast.Dict)) for part in inner):
                faults.append(f"L15: row {node.lineno}")
    return faults


def error_faults(tree):
    faults = []
    for node in ast.walk(tree):
        if isinstance(node, ast.ExceptHandler):
            if not isinstance(node.type, ast.Name) or node.type.id in ("Exception", "TypeError", "ValueError"):
                faults.append(f"L19: row {node.lineno}")
        if isinstance(node, ast.Raise) and not isinstance(node.exc, ast.Call):
            faults.append(f"L19: row {node.lineno}")
    return faults


KEYWORDS = {"sorted": ("key", "reverse"), "min": ("key", "default"), "max": ("key", "default"), "sum": ("start",),
            "enumerate": ("start",), "zip": ("strict",)}


def keyword_faults(tree, top_names):
    faults = []
    for node in ast.walk(tree):
        if isinstance(node, ast.Call) and node.keywords and called(node) not in top_names:
            if not all(word.arg in KEYWORDS.get(called(node), ()) for word in node.keywords):
                faults.append(f"L22: row {node.lineno}")
    return faults


def methods_of(tree):
    return [row.name for node in tree.body if isinstance(node, ast.ClassDef) for row in node.body
            if isinstance(row, ast.FunctionDef)]


def values_of(tree):
    return [node.attr for node in ast.walk(tree) if isinstance(node, ast.Attribute) and isinstance(node.ctx, ast.Store)]


def import_faults(tree, defined):
    faults = []
    for node in ast.walk(tree):
        if isinstance(node, ast.Import):
            faults.append("L16: import")
        if isinstance(node, ast.ImportFrom):
            for name in node.names:
                if node.level != 0 or name.name not in defined.get(node.module, []):
                    faults.append(f"L2, L16: {node.module} {name.name}")
    return faults


def file_faults(text, defined):
    tree = ast.parse(text)
    top_names = [name for node in tree.body for name in names_bound(node)]
    own_methods = [node.name for node in ast.walk(tree) if isinstance(node, ast.FunctionDef)]
    faults = text_faults(text) + top_faults(tree) + import_faults(tree, defined)
    faults.extend(place_faults(tree) + shadow_faults(tree) + kept_faults(tree) + error_faults(tree))
    faults.extend(keyword_faults(tree, top_names))
    for node in ast.walk(tree):
        faults.extend(node_faults(node, top_names, own_methods))
    return faults


def drawn_from(tree):
    return [node.module for node in ast.walk(tree) if isinstance(node, ast.ImportFrom)]


def goes_round(start, drawn):
    met = []
    ahead = list(drawn[start])
    while ahead:
        module = ahead.pop()
        if module not in met:
            met.append(module)
            ahead.extend(drawn.get(module, []))
    return start in met


class Language(unittest.TestCase):
    def setUp(self):
        self.texts = {"creasecurve." + path.stem: path.read_text("utf-8") for path in PACKAGE.glob("*.py")}
        self.trees = {module: ast.parse(text) for module, text in self.texts.items()}
        self.defined = {}
        for module, tree in self.trees.items():
            made_here = [node for node in tree.body if not isinstance(node, ast.ImportFrom)]
            self.defined[module] = [name for node in made_here for name in names_bound(node)]

    def test_only_plain_files(self):
        for path in PACKAGE.iterdir():
            if path.name != "__pycache__":
                self.assertRegex(path.name, r"^([a-z][a-z0-9_]*|__init__|__main__)\.py$")
        self.assertTrue((PACKAGE / "__init__.py").is_file())

    def test_each_file(self):
        for module, text in self.texts.items():
            with self.subTest(module):
                self.assertEqual(file_faults(text, self.defined), [])

    def test_no_two_files_draw_from_one_another(self):
        drawn = {module: drawn_from(tree) for module, tree in self.trees.items()}
        for module in drawn:
            with self.subTest(module):
                self.assertFalse(goes_round(module, drawn))

    def test_no_name_is_a_method_and_a_value(self):
        methods = [name for tree in self.trees.values() for name in methods_of(tree)]
        values = [name for tree in self.trees.values() for name in values_of(tree)]
        self.assertIn("holds", methods)
        self.assertIn("parts", values)
        self.assertEqual(set(methods) & set(values), set())
        for name in values:
            self.assertFalse(any(name in dir(kind) for kind in (str, int, list, tuple, dict, set, bytes)), name)

    def test_code_outside_the_rules_is_found(self):
        wrong = ["import math", "from math import gcd", "from .errors import NoRoof", "x = 1\nx = 2", "x = 0.5",
                 "def f(*rest):\n    pass", "def f():\n    return 1 / 2", "def f(x):\n    x.sort()",
                 "def f(x):\n    return hash(x)", "def f(id):\n    return id", "def _f():\n    pass",
                 "# the type of it", "def f():\n\tpass", "class A:\n    x = 1", "if True:\n    pass",
                 "def f(x):\n    a = b = x", "def f(x):\n    return {a for a in x}", "x = '" + "a" * 120 + "'",
                 "def f(x):\n    with x:\n        pass", "def f():\n" + "    pass\n" * 40,
                 "def f(x):\n    pairs = zip(x, x)", "def f(x):\n    return x.items()", "def f(x):\n    return set(x)",
                 "def f(x):\n    return x is 1", "from creasecurve.errors import NoRoof\ndef f(NoRoof):\n    pass",
                 "def f(x):\n    for a in set(x):\n        pass", "def f(x):\n    return zip(x, reversed(x))",
                 "x = len('a')", "x = {'a': [1]}", "x = [{}]", "def f():\n    raise ValueError",
                 "def f(x):\n    try:\n        x()\n    except Exception:\n        pass",
                 "def f(x):\n    try:\n        x()\n    except:\n        pass",
                 "def f(x):\n    return x.split(sep='a')", "def f(x):\n    return int(x, base=2)"]
        for text in wrong:
            with self.subTest(text):
                self.assertNotEqual(file_faults(text, self.defined), [])


if __name__ == "__main__":
    unittest.main()
