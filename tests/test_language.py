"""The package keeps to the small part of Python that the program is written in (L1 to L28).

What can be told from the text of a file is checked here; each fault bears its rule's number.
"""

import ast
import builtins
import os
import re
import unittest

TOP = os.path.dirname(os.path.dirname(os.path.abspath(__file__)))
PACKAGE = os.path.join(TOP, "boardsight")

STATEMENTS = (
    ast.FunctionDef, ast.ClassDef, ast.ImportFrom, ast.Assign, ast.AugAssign, ast.If, ast.While, ast.For, ast.Return,
    ast.Break, ast.Continue, ast.Pass, ast.Raise, ast.Try, ast.Expr,
)
EXPRESSIONS = (
    ast.Constant, ast.Name, ast.List, ast.Tuple, ast.Dict, ast.BinOp, ast.UnaryOp, ast.BoolOp, ast.Compare, ast.IfExp,
    ast.Call, ast.Attribute, ast.Subscript, ast.Slice, ast.ListComp, ast.JoinedStr, ast.FormattedValue, ast.Lambda,
)
OWN_NAMES = set(
    "len range enumerate zip min max sum abs sorted reversed int str bool list tuple dict set frozenset isinstance ord"
    " repr any all divmod Exception ValueError TypeError KeyError IndexError LookupError ZeroDivisionError"
    " ArithmeticError OverflowError RuntimeError NotImplementedError AttributeError StopIteration".split()
)
METHODS = set(
    "append clear copy count endswith extend find get index insert isalnum isalpha isdigit islower isspace isupper"
    " items join keys ljust lower lstrip partition pop remove replace reverse rfind rjust rpartition rsplit rstrip"
    " setdefault split splitlines startswith strip update upper values zfill bit_length".split()
)
SPECIAL = ("__init__", "__eq__", "__repr__", "__str__", "__len__")
NEVER = set("register mro elements open input version_info with_traceback add_note format format_map".split())
WORDS = re.compile(
    r"\b(type|typing|typing_extensions|enum|Enum|IntEnum|StrEnum|Flag|IntFlag|Generic|Protocol|ABC|ABCMeta|namedtuple"
    r"|NamedTuple|TypedDict|TYPE_CHECKING|abstractmethod)\b|dataclass|overload|contextmanager"
)
WALKED = ("zip", "enumerate", "reversed", "range")
DICT_WALKS = ("items", "keys", "values")
KEYWORDS = {
    "sorted": ("key", "reverse"), "min": ("key", "default"), "max": ("key", "default"), "sum": ("start",),
    "enumerate": ("start",), "zip": ("strict",),
}
KEYS = set("len int str abs sum min max tuple".split())
ERRORS = set(name for name in OWN_NAMES if name[0].isupper())
CHECKED = set("int str bool list tuple dict".split())
NO_VALUES = set(
    "items keys values pop update append clear extend insert remove reverse setdefault sort args encode format".split()
)
VALUES = set("count index title find get join lower upper split strip copy add".split())
PYTHONS = set(name for kind in (str, int, list, dict, set, bytes) for name in vars(kind))
WALKERS = ("list", "tuple", "dict", "sorted", "sum", "any", "all", "enumerate", "zip", "min", "max")


def sources():
    found = {}
    for name in sorted(os.listdir(PACKAGE)):
        if name != "__pycache__":
            with open(os.path.join(PACKAGE, name), encoding="utf-8") as source:
                found[name] = source.read()
    return found


def parents_of(tree):
    return {child: parent for parent in ast.walk(tree) for child in ast.iter_child_nodes(parent)}


def text_faults(text):
    faults = []
    for row, line in enumerate(text.split("\n"), 1):
        if len(line) > 120:
            faults.append(("L10", row))
        if [sign for sign in line if not " " <= sign <= "~"]:
            faults.append(("L14", row))
        if WORDS.search(line):
            faults.append(("L17", row))
    if len(text.split("\n")) > 401:
        faults.append(("L10", 401))
    return faults


def is_docstring(node, tree):
    return isinstance(node, ast.Expr) and node is tree.body[0] and isinstance(node.value, ast.Constant)


def statement_faults(node, tree):
    if isinstance(node, ast.Import):
        return ["L2"]
    if isinstance(node, ast.stmt) and not isinstance(node, STATEMENTS):
        return ["L6"]
    if isinstance(node, ast.Expr) and not isinstance(node.value, ast.Call) and not is_docstring(node, tree):
        return ["L6"]
    if isinstance(node, ast.Assign) and (len(node.targets) > 1 or isinstance(node.targets[0], (ast.Tuple, ast.List))):
        return ["L6"]
    if isinstance(node, (ast.For, ast.While)) and node.orelse:
        return ["L6"]
    if isinstance(node, ast.Try) and node.finalbody:
        return ["L6"]
    if isinstance(node, ast.ImportFrom):
        if node.level or not (node.module or "").startswith("boardsight.") or any(a.asname for a in node.names):
            return ["L2"]
    if isinstance(node, ast.Raise) and not isinstance(node.exc, ast.Call):
        return ["L19"]
    return []


def expression_faults(node, parents):
    if isinstance(node, ast.expr) and not isinstance(node, EXPRESSIONS):
        return ["L7"]
    if isinstance(node, ast.Constant) and not isinstance(node.value, (int, str, type(None))):
        return ["L7"]
    if isinstance(node, ast.Constant) and isinstance(node.value, str) and "%" in node.value:
        return ["L27"]
    if isinstance(node, ast.BinOp) and isinstance(node.op, (ast.Div, ast.MatMult)):
        return ["L7"]
    if isinstance(node, ast.BinOp) and isinstance(node.op, ast.Pow) and not isinstance(node.right, ast.Constant):
        return ["L27"]
    if isinstance(node, ast.ListComp) and (len(node.generators) > 1 or len(node.generators[0].ifs) > 1):
        return ["L7"]
    if isinstance(node, ast.Compare) and any(isinstance(op, (ast.Is, ast.IsNot)) for op in node.ops):
        sides = [node.left] + node.comparators
        if not any(isinstance(s, ast.Constant) and s.value in (None, True, False) for s in sides):
            return ["L20"]
    if isinstance(node, ast.Call) and isinstance(node.func, ast.Name) and node.func.id in WALKED:
        return walk_faults(node, parents[node])
    return []


def walk_faults(node, parent):
    if isinstance(parent, (ast.For, ast.comprehension)) and parent.iter is node:
        return []
    if isinstance(parent, ast.Call) and isinstance(parent.func, ast.Name) and parent.func.id in WALKERS:
        return []
    return ["L23"]


def def_faults(node):
    faults = []
    if isinstance(node, (ast.FunctionDef, ast.ClassDef)) and node.decorator_list:
        faults.append("L4")
    if isinstance(node, ast.FunctionDef):
        given = node.args
        if given.vararg or given.kwarg or given.kwonlyargs or given.posonlyargs:
            faults.append("L4")
        if node.returns or any(a.annotation for a in given.args):
            faults.append("L21")
        if node.end_lineno - node.lineno + 1 > 40:
            faults.append("L10")
    if isinstance(node, ast.ClassDef):
        if len(node.bases) > 1 or not all(isinstance(n, (ast.FunctionDef, ast.Pass)) for n in node.body):
            faults.append("L5")
    return faults


def bound_names(node):
    if isinstance(node, ast.Name) and isinstance(node.ctx, ast.Store):
        return [node.id]
    if isinstance(node, ast.arg):
        return [node.arg]
    if isinstance(node, (ast.FunctionDef, ast.ClassDef)):
        return [node.name]
    return []


def name_faults(node, known, imported, methods):
    faults = []
    for name in bound_names(node):
        if name not in SPECIAL and not re.fullmatch(r"[A-Za-z][A-Za-z0-9_]*", name):
            faults.append("L12")
        if name not in SPECIAL and (hasattr(builtins, name) or name in imported):
            faults.append("L15")
        if name in NEVER:
            faults.append("L17")
    if isinstance(node, ast.Name) and isinstance(node.ctx, ast.Load):
        if node.id not in known and node.id not in OWN_NAMES:
            faults.append("L8")
    if isinstance(node, ast.Attribute):
        if node.attr in NEVER or (node.attr.startswith("_") and node.attr not in SPECIAL):
            faults.append("L17")
    if isinstance(node, ast.Call) and isinstance(node.func, ast.Attribute):
        if node.func.attr not in METHODS and node.func.attr not in methods and node.func.attr not in SPECIAL:
            faults.append("L25")
    return faults


def is_call_of(node, names):
    return isinstance(node, ast.Call) and isinstance(node.func, ast.Name) and node.func.id in names


def call_faults(node, parents, methods):
    faults = []
    if isinstance(node, ast.Call) and node.keywords:
        name = node.func.id if isinstance(node.func, ast.Name) else node.func.attr
        own = name in OWN_NAMES if isinstance(node.func, ast.Name) else name in METHODS or name not in methods
        if own and not all(keyword.arg in KEYWORDS.get(name, ()) for keyword in node.keywords):
            faults.append("L22")
    if is_call_of(node, ("isinstance",)):
        asked = node.args[1].elts if isinstance(node.args[1], ast.Tuple) else [node.args[1]]
        if not all(isinstance(kind, ast.Name) and (kind.id in CHECKED or kind.id[0].isupper()) for kind in asked):
            faults.append("L22")
    if isinstance(node, ast.Name) and node.id in OWN_NAMES and node.id not in ERRORS:
        parent = parents[node]
        called = isinstance(parent, ast.Call) and parent.func is node
        key = isinstance(parent, ast.keyword) and parent.arg == "key" and node.id in KEYS
        asked = is_call_of(parent, ("isinstance",)) or is_call_of(parents.get(parent), ("isinstance",))
        if not called and not key and not asked:
            faults.append("L22")
    if isinstance(node, ast.Call) and isinstance(node.func, ast.Attribute) and node.func.attr in DICT_WALKS:
        faults.extend(walk_faults(node, parents[node]))
    return faults


def set_faults(node, parents):
    if not is_call_of(node, ("set", "frozenset")):
        return []
    parent = parents[node]
    while isinstance(parent, ast.BinOp):
        parent = parents[parent]
    asks = (ast.In, ast.NotIn, ast.Eq, ast.NotEq)
    if isinstance(parent, ast.Compare) and all(isinstance(op, asks) for op in parent.ops):
        return []
    if is_call_of(parent, ("sorted", "len")) and not parent.keywords:
        return []
    return ["L24"]


def class_faults(node, parents, classes):
    if not isinstance(node, ast.Name) or node.id not in classes:
        return []
    parent = parents[node]
    if isinstance(parent, ast.Tuple):
        parent = parents[parent]
    if isinstance(parent, ast.Call) and (parent.func is node or is_call_of(parent, ("isinstance",))):
        return []
    return [] if isinstance(parent, (ast.ClassDef, ast.ExceptHandler)) else ["L18"]


def value_faults(node, parents, methods):
    faults = []
    if isinstance(node, ast.Attribute) and isinstance(node.ctx, ast.Store):
        if node.attr in methods:
            faults.append("L18")
        if node.attr in NO_VALUES or (node.attr in PYTHONS and node.attr not in VALUES):
            faults.append("L26")
    if isinstance(node, ast.FunctionDef) and isinstance(parents[node], ast.ClassDef) and node.name not in SPECIAL:
        if node.name in PYTHONS and node.name not in METHODS and node.name not in ("add", "discard"):
            faults.append("L26")
    if isinstance(node, ast.FunctionDef) and node.name == "__init__":
        if any(isinstance(inner, ast.Return) for inner in ast.walk(node)):
            faults.append("L28")
    return faults


def handler_faults(node):
    if not isinstance(node, ast.ExceptHandler):
        return []
    taken = node.type.elts if isinstance(node.type, ast.Tuple) else [node.type]
    names = [kind.id for kind in taken if isinstance(kind, ast.Name)]
    return ["L19"] if not names or set(names) & {"Exception", "TypeError"} else []


def top_faults(tree):
    faults = []
    names = []
    for node in tree.body:
        if isinstance(node, ast.Assign):
            names.append(node.targets[0].id)
        elif isinstance(node, (ast.FunctionDef, ast.ClassDef)):
            names.append(node.name)
        elif not isinstance(node, ast.ImportFrom) and not is_docstring(node, tree):
            faults.append(("L3", node.lineno))
    if len(set(names)) != len(names):
        faults.append(("L15", 1))
    return faults


def classes_in(text):
    return [node for node in ast.walk(ast.parse(text)) if isinstance(node, ast.ClassDef)]


def class_names(texts):
    return [one.name for text in texts for one in classes_in(text)]


def method_names(texts):
    return [node.name for text in texts for one in classes_in(text) for node in one.body
            if isinstance(node, ast.FunctionDef)]


def faults_of(text, others=()):
    """The faults of one file's text; with the others' classes and methods known."""
    tree = ast.parse(text)
    parents = parents_of(tree)
    nodes = list(ast.walk(tree))
    methods = method_names([text] + list(others))
    classes = class_names([text] + list(others))
    imported = [a.name for n in nodes if isinstance(n, ast.ImportFrom) for a in n.names]
    known = set(imported + [name for n in nodes for name in bound_names(n)])
    faults = text_faults(text) + top_faults(tree)
    for node in nodes:
        found = statement_faults(node, tree) + expression_faults(node, parents) + def_faults(node)
        found += name_faults(node, known, imported, methods) + call_faults(node, parents, methods)
        found += set_faults(node, parents) + class_faults(node, parents, classes) + handler_faults(node)
        found += value_faults(node, parents, methods)
        faults += [(rule, getattr(node, "lineno", 0)) for rule in found]
    return faults


def drawn_from(text):
    return sorted({n.module for n in ast.walk(ast.parse(text)) if isinstance(n, ast.ImportFrom)})


class LanguageTest(unittest.TestCase):
    def test_only_plain_files(self):
        for name in sources():
            self.assertRegex(name, r"^(__init__|[a-z][a-z0-9_]*)\.py$")

    def test_no_file_has_a_fault(self):
        files = sources()
        for name, text in files.items():
            self.assertEqual(faults_of(text, files.values()), [], name)

    def test_names_come_from_the_file_that_defines_them(self):
        files = sources()
        for name, text in files.items():
            for node in ast.walk(ast.parse(text)):
                if isinstance(node, ast.ImportFrom):
                    home = ast.parse(files[node.module.split(".")[1] + ".py"])
                    there = [bound for item in home.body for bound in bound_names(item)]
                    for assigned in [item for item in home.body if isinstance(item, ast.Assign)]:
                        there.append(assigned.targets[0].id)
                    for wanted in node.names:
                        self.assertIn(wanted.name, there, name)

    def test_no_two_files_draw_from_one_another(self):
        left = {"boardsight." + name[:-3]: drawn_from(text) for name, text in sources().items()}
        while left:
            ready = [name for name in left if not [other for other in left[name] if other in left]]
            self.assertTrue(ready, sorted(left))
            left = {name: drawn for name, drawn in left.items() if name not in ready}

    def test_faults_are_found(self):
        wrong = {
            "L2": "import sys\n", "L3": "if 1:\n    pass\n", "L4": "def f(*xs):\n    return xs\n",
            "L5": "class A:\n    x = 1\n", "L6": "def f(x):\n    assert x\n", "L7": "def f(x):\n    return x / 2\n",
            "L8": "def f(x):\n    return hash(x)\n", "L10": "def f():\n" + "    pass\n" * 40,
            "L12": "def f(_x):\n    return 1\n", "L14": "# \u00e4\n", "L15": "def f(min):\n    return 1\n",
            "L17": "# a type\n", "L19": "def f(e):\n    raise e\n", "L20": "def f(x, y):\n    return x is y\n",
            "L21": "def f(x: int):\n    return x\n", "L23": "def f():\n    xs = range(3)\n    return xs\n",
            "L25": "def f(xs):\n    xs.sort()\n", "L27": "def f(n):\n    return 2 ** n\n",
            "L18": "class A:\n    pass\n\n\ndef f():\n    return A\n", "L22": "def f():\n    return len\n",
            "L24": "def f(xs):\n    return set(xs)\n", "L26": "class A:\n    def f(self):\n        self.items = 1\n",
            "L28": "class A:\n    def __init__(self):\n        return None\n",
        }
        more = [
            ("L18", "class A:\n    def b(self):\n        pass\n\n\nclass C:\n    def d(self):\n        self.b = 1\n"),
            ("L19", "def f(x):\n    try:\n        return x()\n    except TypeError:\n        return 1\n"),
            ("L19", "def f(x):\n    try:\n        return x()\n    except (KeyError, Exception):\n        return 1\n"),
            ("L22", "def f(xs):\n    return list(xs, key=1)\n"),
            ("L22", "def f(xs):\n    return isinstance(xs, set)\n"),
            ("L22", "def f(xs):\n    return sorted(xs, key=repr)\n"),
            ("L23", "def f(d):\n    xs = d.items()\n    return xs\n"),
            ("L24", "def f(xs):\n    return [x for x in set(xs)]\n"),
            ("L26", "class A:\n    def isdecimal(self):\n        return 1\n"),
        ]
        for rule, text in list(wrong.items()) + more:
            self.assertIn(rule, [found for found, row in faults_of(text)], text)

    def test_what_is_allowed_has_no_fault(self):
        for text in (
            "def f(xs):\n    return sorted(set(xs)), len(set(xs) | set([1]))\n",
            "def f(xs):\n    return max(xs, key=len, default=0)\n",
            "class A:\n    def f(self):\n        self.b = 1\n\n\ndef g(x):\n    return isinstance(x, (int, A))\n",
            "def f(d):\n    return [k for k, v in d.items() if v in set(d)]\n",
        ):
            self.assertEqual(faults_of(text), [], text)


if __name__ == "__main__":
    unittest.main()
