"""The package's files keep to the part of Python that the program is written in.

Only rules that a walk over the code can see are looked at, and some of those in part: what passes here may
still be outside the rules.
"""

import ast
import builtins
import pathlib
import re
import unittest

PACKAGE = pathlib.Path(__file__).resolve().parent.parent / "leafframe"

NODES = """
Module Import ImportFrom alias FunctionDef arguments arg ClassDef Assign AugAssign If While For Return Break Continue
Pass Raise Try ExceptHandler Expr Name Load Store Constant List Tuple Dict Set BinOp UnaryOp BoolOp Compare IfExp Call
keyword Attribute Subscript Slice ListComp comprehension JoinedStr FormattedValue Lambda Add Sub Mult FloorDiv Mod Pow
BitAnd BitOr BitXor LShift RShift Invert USub And Or Not Eq NotEq Lt LtE Gt GtE Is IsNot In NotIn
""".split()
OWN_NAMES = """
len range enumerate zip min max sum abs sorted reversed int str bool list tuple dict set frozenset isinstance ord repr
any all divmod Exception ValueError TypeError KeyError IndexError LookupError ZeroDivisionError ArithmeticError
OverflowError RuntimeError NotImplementedError AttributeError StopIteration
""".split()
METHODS = """
append clear copy count endswith extend find get index insert isalnum isalpha isdigit islower isspace isupper items
join keys ljust lower lstrip partition pop remove replace reverse rfind rjust rpartition rsplit rstrip setdefault split
splitlines startswith strip update upper values zfill bit_length
""".split()
DUNDERS = ("__init__", "__eq__", "__repr__", "__str__", "__len__")
UNUSED = "register mro elements open input version_info with_traceback add_note format format_map".split()
WORDS = re.compile(
    r"\b(type|typing|typing_extensions|enum|Enum|IntEnum|StrEnum|Flag|IntFlag|Generic|Protocol|ABC|ABCMeta|namedtuple"
    r"|NamedTuple|TypedDict|TYPE_CHECKING|abstractmethod)\b|dataclass|overload|contextmanager"
)
WALKED = ("zip", "enumerate", "reversed", "range")
WALKED_METHODS = ("items", "keys", "values")
WALKERS = ("list", "tuple", "dict", "sorted", "sum", "any", "all", "enumerate", "zip")
KEYWORDS = {"sorted": ("key", "reverse"), "min": ("key", "default"), "max": ("key", "default"), "sum": ("start",),
            "enumerate": ("start",), "zip": ("strict",)}
TAKEN_AS_YOU_LIKE = ("KeyError", "ZeroDivisionError", "StopIteration")
# What an object's methods, and its values, may be called although Python's own values have such a name.
METHODS_TOO = METHODS + ["add", "discard"]
VALUES_TOO = "count index title find get join lower upper split strip copy add".split()
NOT_FREE = set().union(*[dir(kind) for kind in (str, int, list, tuple, dict, set, frozenset, bytes)])


def bound_names(tree):
    for node in ast.walk(tree):
        if isinstance(node, (ast.FunctionDef, ast.ClassDef)):
            yield node.name
        elif isinstance(node, ast.arg):
            yield node.arg
        elif isinstance(node, ast.Name) and isinstance(node.ctx, ast.Store):
            yield node.id
        elif isinstance(node, ast.Attribute) and isinstance(node.ctx, ast.Store):
            yield node.attr


def methods_of(tree):
    classes = [node for node in ast.walk(tree) if isinstance(node, ast.ClassDef)]
    return {part.name for node in classes for part in node.body if isinstance(part, ast.FunctionDef)}


def values_of(tree):
    return {node.attr for node in ast.walk(tree) if isinstance(node, ast.Attribute) and isinstance(node.ctx, ast.Store)}


def drawn_from(tree):
    return [node.module for node in ast.walk(tree) if isinstance(node, ast.ImportFrom)]


def faults_of_text(text):
    found = ["L10 file"] * (len(text.splitlines()) > 400)
    found += ["L10 line" for line in text.splitlines() if len(line) > 120]
    found += ["L14 sign" for sign in text if sign != "\n" and not " " <= sign <= "~"]
    return found + ["L17 " + word.group() for word in WORDS.finditer(text)]


def faults_of_node(node, own_methods):
    kind = type(node).__name__
    if kind not in NODES:
        return ["L6/L7 " + kind]
    if kind == "FunctionDef":
        size = node.end_lineno - node.lineno + 1
        bare = not (node.args.vararg or node.args.kwarg or node.args.kwonlyargs or node.decorator_list)
        return ["L10 " + node.name] * (size > 40) + ["L4 " + node.name] * (not bare)
    if kind == "ClassDef" and (len(node.bases) > 1 or node.decorator_list or node.keywords):
        return ["L5 " + node.name]
    if kind == "ClassDef":
        return ["L5 " + node.name for part in node.body if not isinstance(part, (ast.FunctionDef, ast.Pass))]
    if kind == "Import" or kind == "ImportFrom" and not (node.module or "").startswith("leafframe."):
        return ["L2 import"]
    if kind == "Assign" and len(node.targets) > 1:
        return ["L6 targets"]
    if kind == "Name" and isinstance(node.ctx, ast.Load) and hasattr(builtins, node.id) and node.id not in OWN_NAMES:
        return ["L8 " + node.id]
    if kind == "Attribute" and node.attr in UNUSED:
        return ["L17 " + node.attr]
    if kind == "Call" and isinstance(node.func, ast.Attribute) and node.func.attr not in own_methods:
        return ["L25 " + node.func.attr] * (node.func.attr not in METHODS)
    if kind == "Constant" and isinstance(node.value, (float, bytes, complex)):
        return ["L7 value"]
    if kind == "Constant" and isinstance(node.value, str) and "%" in node.value:
        return ["L27 text"]
    if kind == "BinOp" and isinstance(node.op, ast.Pow) and not isinstance(node.right, ast.Constant):
        return ["L27 exponent"]
    if kind == "Compare" and any(isinstance(deed, (ast.Is, ast.IsNot)) for deed in node.ops):
        beside = [node.left] + node.comparators
        return ["L20 is"] * (not any(isinstance(side, ast.Constant) for side in beside))
    if kind in ("For", "While") and node.orelse or kind == "Try" and node.finalbody:
        return ["L6 " + kind]
    return []


def called(node):
    """The name of what is called by itself, like a builtin; None for all else."""
    return node.func.id if isinstance(node, ast.Call) and isinstance(node.func, ast.Name) else None


def walked_at_once(node, above):
    if isinstance(above, (ast.For, ast.comprehension)):
        return above.iter is node
    if called(above) in WALKERS:
        return above.args[0] is node
    if called(above) in ("min", "max"):
        return above.args == [node]
    joined = isinstance(above, ast.Call) and isinstance(above.func, ast.Attribute) and above.func.attr == "join"
    return joined and isinstance(above.func.value, ast.Constant)


def set_is_asked_at_once(node, parents):
    above = parents[node]
    if isinstance(above, ast.Compare):
        return True
    while isinstance(above, ast.BinOp):
        above = parents[above]
    return called(above) in ("sorted", "len") and not above.keywords


def class_stands_well(node, parents):
    above = parents[node]
    if isinstance(above, ast.Tuple):
        above = parents[above]
    called_or_asked = isinstance(above, ast.Call) and (above.func is node or called(above) == "isinstance")
    base_init = isinstance(above, ast.Attribute) and above.attr == "__init__"
    return called_or_asked or base_init or isinstance(above, (ast.ClassDef, ast.ExceptHandler))


def faults_of_place(node, parents, classes):
    """What hangs on where a node stands."""
    above = parents.get(node)
    if isinstance(node, ast.Call):
        method = node.func.attr if isinstance(node.func, ast.Attribute) else None
        if (called(node) in WALKED or method in WALKED_METHODS) and not walked_at_once(node, above):
            return ["L23 kept"]
        if called(node) in ("set", "frozenset") and not set_is_asked_at_once(node, parents):
            return ["L24 set"]
        named = {word.arg for word in node.keywords}
        if (called(node) in OWN_NAMES or method in METHODS) and named - set(KEYWORDS.get(called(node), ())):
            return ["L22 keyword"]
    if isinstance(node, ast.Name) and isinstance(node.ctx, ast.Load) and node.id in classes:
        return [] if class_stands_well(node, parents) else ["L18 " + node.id]
    if isinstance(node, ast.Assign) and not isinstance(node.targets[0], (ast.Name, ast.Attribute, ast.Subscript)):
        return ["L6 target"]
    if isinstance(node, ast.ExceptHandler):
        fine = isinstance(node.type, ast.Name) and (node.type.id in classes or node.type.id in TAKEN_AS_YOU_LIKE)
        return [] if fine else ["L19 except"]
    return []


def faults_of_top(tree):
    plain = (ast.ImportFrom, ast.FunctionDef, ast.ClassDef, ast.Assign)
    found = ["L3 " + type(part).__name__ for part in tree.body[1:] if not isinstance(part, plain)]
    imports = [alias.asname or alias.name for node in tree.body if isinstance(node, ast.ImportFrom) for alias in node.names]
    tops = imports + [part.name for part in tree.body if isinstance(part, (ast.FunctionDef, ast.ClassDef))]
    tops += [target.id for part in tree.body if isinstance(part, ast.Assign) for target in part.targets]
    found += ["L15 twice " + name for name in set(tops) if tops.count(name) > 1]
    shadows = set(imports) | {part.name for part in tree.body if isinstance(part, ast.ClassDef)}
    inner = [node for part in tree.body if isinstance(part, (ast.FunctionDef, ast.ClassDef)) for node in part.body]
    args = [node.arg for node in ast.walk(tree) if isinstance(node, ast.arg)]
    stored = [node.id for part in inner for node in ast.walk(part)
              if isinstance(node, ast.Name) and isinstance(node.ctx, ast.Store)]
    return found + ["L15 " + name for name in args + stored if name in shadows]


def faults_of_names(tree):
    found = ["L26 " + name for name in methods_of(tree) if name in NOT_FREE and name not in METHODS_TOO + list(DUNDERS)]
    return found + ["L26 " + name for name in values_of(tree) if name in NOT_FREE and name not in VALUES_TOO]


def faults(text, own_methods=(), own_classes=()):
    tree = ast.parse(text)
    own = set(own_methods) | methods_of(tree) | set(DUNDERS)
    classes = set(own_classes) | {node.name for node in tree.body if isinstance(node, ast.ClassDef)}
    parents = {below: node for node in ast.walk(tree) for below in ast.iter_child_nodes(node)}
    found = faults_of_text(text) + faults_of_top(tree) + faults_of_names(tree)
    for node in ast.walk(tree):
        found += faults_of_node(node, own) + faults_of_place(node, parents, classes)
    for name in bound_names(tree):
        if name.startswith("_") and name not in DUNDERS:
            found.append("L12 " + name)
        if hasattr(builtins, name) and name not in DUNDERS and name not in methods_of(tree):
            found.append("L15 " + name)
    return found


class Package(unittest.TestCase):
    def setUp(self):
        self.paths = sorted(path for path in PACKAGE.rglob("*") if "__pycache__" not in path.parts)
        self.trees = {path.stem: ast.parse(path.read_text("utf-8")) for path in self.paths}

    def test_files(self):
        self.assertIn(PACKAGE / "__init__.py", self.paths)
        for path in self.paths:
            self.assertRegex(path.name, r"\A([a-z][a-z0-9_]*|__init__)\.py\Z")
            self.assertNotRegex(path.name, r"\A(tests?|testing|test_.*|site|conftest|.*customize)\.py\Z")

    def test_each_file_keeps_to_the_rules(self):
        own = set().union(*[methods_of(tree) for tree in self.trees.values()])
        classes = {node.name for tree in self.trees.values() for node in tree.body if isinstance(node, ast.ClassDef)}
        for path in self.paths:
            self.assertEqual(faults(path.read_text("utf-8"), own, classes), [], path.name)

    def test_no_name_is_a_method_and_a_value(self):
        methods = set().union(*[methods_of(tree) for tree in self.trees.values()])
        values = set().union(*[values_of(tree) for tree in self.trees.values()])
        self.assertEqual(methods & values, set())

    def test_names_are_drawn_from_the_file_that_defines_them(self):
        for name, tree in self.trees.items():
            for node in ast.walk(tree):
                if isinstance(node, ast.ImportFrom):
                    source = self.trees[node.module.partition(".")[2]]
                    defined = {part.name for part in source.body if isinstance(part, (ast.FunctionDef, ast.ClassDef))}
                    self.assertLessEqual({alias.name for alias in node.names}, defined, name)

    def test_no_two_files_draw_from_one_another(self):
        drawn = {"leafframe." + name: set(drawn_from(tree)) for name, tree in self.trees.items()}
        while drawn:
            ready = [name for name, wants in drawn.items() if not wants & set(drawn)]
            self.assertNotEqual(ready, [], sorted(drawn))
            for name in ready:
                drawn.pop(name)


class Looking(unittest.TestCase):
    def test_what_is_outside_the_rules_is_seen(self):
        for text in (
            "import os", "from os import path", "x = 1.5", "x = 4 / 2", "x = 2 ** y", "x = y = 1", "x = chr(3)",
            "def f(*xs):\n    pass", "with x:\n    pass", "x = {y for y in z}", "x = 'a%b'", "x = y is z", "x = _y = 1",
            "_x = 1", "def f(id):\n    pass", "class A:\n    x = 1", "x = getattr(y, z)", "y.sort()", "x = 'type'",
            "x = 1\t", "x = 1  #" + "-" * 120, "def f():\n" + "    x = 1\n" * 40, "x = 1\n" * 401, "y.format()",
            "for x in y:\n    pass\nelse:\n    pass", "try:\n    x()\nfinally:\n    y()", "del x", "assert x",
            "def f(a):\n    x, y = a", "def f(a):\n    return reversed(range(a))", "def f(a):\n    b = a.items()",
            "def f(a):\n    return list(reversed(range(a)))", "def f(a):\n    b = set(a)", "def f(a):\n    return a.get(k=1)",
            "class A:\n    pass\n\n\ndef f():\n    return [A]", "def f():\n    try:\n        f()\n    except Exception:\n"
            "        pass", "'d'\nx = 1\nx = 2", "'d'\nx()", "class A:\n    def sort(self):\n        pass",
            "class A:\n    def f(self):\n        self.values = 1", "class A:\n    pass\n\n\ndef f(A):\n    pass",
            "from leafframe.x import y\n\n\ndef f():\n    y = 1", "def f(a):\n    for x in set(a):\n        pass",
        ):
            self.assertNotEqual(faults(text), [], text)

    def test_what_is_within_the_rules_passes(self):
        for text in (
            "x = 1", "x = [1 << 3, (2,)]", "def f(a, b=1):\n    return a if b is None else b", "x = 2 ** 64",
            "def f(a):\n    return sorted(set(a) | set(f))", "def f(a):\n    return a in set(f)",
            "def f(a):\n    for x, y in a.items():\n        f(dict(enumerate(x)), start=y)",
            "class A:\n    pass\n\n\ndef f(a):\n    return A() if isinstance(a, (A, int)) else sum(range(a), start=1)",
        ):
            self.assertEqual(faults(text), [], text)


if __name__ == "__main__":
    unittest.main()
