"""The package keeps to the small part of Python that it is written in.

Only what a walk through the syntax can see is asked here; each complaint bears the number of its rule.
"""

import ast
import builtins
import pathlib
import re
import unittest

PACKAGE = pathlib.Path(__file__).resolve().parent.parent / "tranchefall"

ERRORS = (
    "Exception ValueError TypeError KeyError IndexError LookupError ZeroDivisionError ArithmeticError"
    " OverflowError RuntimeError NotImplementedError AttributeError StopIteration"
).split()
OWN_NAMES = set(ERRORS) | set(
    "len range enumerate zip min max sum abs sorted reversed int str bool list tuple dict set frozenset"
    " isinstance ord repr any all divmod".split()
)
METHODS = set(
    "append clear copy count endswith extend find get index insert isalnum isalpha isdigit islower isspace"
    " isupper items join keys ljust lower lstrip partition pop remove replace reverse rfind rjust rpartition"
    " rsplit rstrip setdefault split splitlines startswith strip update upper values zfill bit_length".split()
)
CHANGING = set("append clear extend insert pop remove reverse setdefault update".split())
SPECIAL = {"__init__", "__eq__", "__repr__", "__str__", "__len__"}
UNUSED_NAMES = set(
    "register mro elements open input version_info with_traceback add_note attrgetter breakpoint builtins"
    " compile copyright credits delattr dir eval exec exit gc getattr globals hasattr help id importlib"
    " license locals methodcaller os quit setattr super type vars sys format format_map".split()
)
UNUSED_WORDS = re.compile(
    r"\b(type|typing|typing_extensions|enum|Enum|IntEnum|StrEnum|Flag|IntFlag|Generic|Protocol|ABC|ABCMeta"
    r"|namedtuple|NamedTuple|TypedDict|TYPE_CHECKING|abstractmethod)\b|dataclass|overload|contextmanager"
)
STATEMENTS = (
    ast.FunctionDef, ast.ClassDef, ast.Return, ast.Assign, ast.AugAssign, ast.For, ast.While, ast.If, ast.Raise,
    ast.Try, ast.ImportFrom, ast.Expr, ast.Pass, ast.Break, ast.Continue,
)
EXPRESSIONS = (
    ast.BoolOp, ast.BinOp, ast.UnaryOp, ast.Lambda, ast.IfExp, ast.Dict, ast.Set, ast.ListComp, ast.Compare,
    ast.Call, ast.FormattedValue, ast.JoinedStr, ast.Constant, ast.Attribute, ast.Subscript, ast.Name, ast.List,
    ast.Tuple, ast.Slice,
)


def is_docstring(node):
    return isinstance(node, ast.Expr) and isinstance(node.value, ast.Constant) and isinstance(node.value.value, str)


def is_plain(node):
    if isinstance(node, (ast.List, ast.Tuple)):
        return all(is_plain(part) for part in node.elts)
    if isinstance(node, ast.Dict):
        return all(part is not None and is_plain(part) for part in node.keys + node.values)
    return isinstance(node, (ast.Constant, ast.Name))


def own_methods(trees):
    return {
        node.name for tree in trees for one in ast.walk(tree) if isinstance(one, ast.ClassDef)
        for node in one.body if isinstance(node, ast.FunctionDef)
    }


def bound_names(tree):
    for node in ast.walk(tree):
        if isinstance(node, (ast.FunctionDef, ast.ClassDef)):
            yield node, node.name
        elif isinstance(node, ast.arg):
            yield node, node.arg
        elif isinstance(node, ast.Name) and isinstance(node.ctx, ast.Store):
            yield node, node.id


def of_text(source):
    for number, line in enumerate(source.split("\n"), 1):
        if len(line) > 120:
            yield "L10 long line", number
        if not all(" " <= sign <= "~" for sign in line):
            yield "L14 sign", number
        if UNUSED_WORDS.search(line):
            yield "L17 word", number
    if source.count("\n") > 400:
        yield "L10 long file", 400


def of_top(tree):
    names = []
    for at, node in enumerate(tree.body):
        if isinstance(node, ast.Assign):
            names.append(node.targets[0].id)
            if not is_plain(node.value):
                yield "L3 value", node.lineno
            parts = node.value.values if isinstance(node.value, ast.Dict) else getattr(node.value, "elts", [])
            if any(isinstance(part, (ast.List, ast.Dict)) for part in parts):
                yield "L15 list within a list", node.lineno
        elif isinstance(node, (ast.FunctionDef, ast.ClassDef)):
            names.append(node.name)
        elif not isinstance(node, ast.ImportFrom) and not (at == 0 and is_docstring(node)):
            yield "L3 top", node.lineno
    if len(names) != len(set(names)):
        yield "L15 a name twice", 1


def of_statement(node, docstring):
    if not isinstance(node, STATEMENTS):
        yield "L6 statement"
    if isinstance(node, ast.Expr) and not isinstance(node.value, ast.Call) and node is not docstring:
        yield "L6 value by itself"
    if isinstance(node, ast.Assign) and len(node.targets) != 1:
        yield "L6 targets"
    if isinstance(node, (ast.For, ast.While)) and node.orelse:
        yield "L6 else behind a loop"
    if isinstance(node, ast.ImportFrom) and (node.level or node.module.split(".")[0] != "tranchefall"):
        yield "L2 import"
    if isinstance(node, ast.ImportFrom) and any(one.name == "*" or one.asname for one in node.names):
        yield "L2 import"
    if isinstance(node, (ast.FunctionDef, ast.ClassDef)) and node.decorator_list:
        yield "L4 decorator"
    if isinstance(node, ast.FunctionDef) and node.end_lineno - node.lineno + 1 > 40:
        yield "L10 long function"
    if isinstance(node, ast.FunctionDef) and (node.args.vararg or node.args.kwarg or node.args.kwonlyargs):
        yield "L4 parameters"
    if isinstance(node, ast.ClassDef):
        if len(node.bases) > 1 or not all(isinstance(one, (ast.FunctionDef, ast.Pass)) for one in node.body):
            yield "L5 class"


def of_expression(node, methods):
    if not isinstance(node, EXPRESSIONS):
        yield "L7 expression"
    if isinstance(node, ast.BinOp) and isinstance(node.op, (ast.Div, ast.MatMult)):
        yield "L7 operator"
    if isinstance(node, ast.Constant) and not (node.value is None or isinstance(node.value, (int, str))):
        yield "L7 value"
    if isinstance(node, ast.Constant) and isinstance(node.value, str) and "%" in node.value:
        yield "L27 sign in a text"
    if isinstance(node, ast.ListComp) and (len(node.generators) != 1 or len(node.generators[0].ifs) > 1):
        yield "L7 comprehension"
    if isinstance(node, ast.Compare) and any(isinstance(op, (ast.Is, ast.IsNot)) for op in node.ops):
        if not all(isinstance(one, ast.Constant) for one in node.comparators):
            yield "L20 is"
    if isinstance(node, ast.Name) and hasattr(builtins, node.id) and node.id not in OWN_NAMES:
        yield "L8 name"
    if isinstance(node, ast.Attribute) and node.attr in UNUSED_NAMES:
        yield "L17 attribute"
    if isinstance(node, ast.Call) and isinstance(node.func, ast.Attribute):
        if node.func.attr not in METHODS | methods:
            yield "L25 method"


def parents_in(tree):
    return {child: node for node in ast.walk(tree) for child in ast.iter_child_nodes(node)}


def called_name(node):
    return node.func.id if isinstance(node, ast.Call) and isinstance(node.func, ast.Name) else None


def is_walked(node, parent):
    """L23: whether zip(..) and its like, or items() and its like, stand where they are walked on the spot."""
    if isinstance(parent, (ast.For, ast.comprehension)):
        return parent.iter is node
    if called_name(parent) in ("list", "tuple", "dict", "sorted", "sum", "any", "all", "enumerate", "zip", "min", "max"):
        return node in parent.args
    return False


def changed_in(loop):
    """The texts of what is changed within a loop: by an index or by a method that changes."""
    for node in [one for row in loop.body for one in ast.walk(row)]:
        if isinstance(node, ast.Subscript) and isinstance(node.ctx, ast.Store):
            yield ast.unparse(node.value)
        if isinstance(node, ast.Call) and isinstance(node.func, ast.Attribute) and node.func.attr in CHANGING:
            yield ast.unparse(node.func.value)


def walked_in(loop):
    """The texts of what a loop walks, itself or through enumerate, items and their like."""
    left = [loop.iter]
    while left:
        node = left.pop()
        yield ast.unparse(node)
        if called_name(node) in ("enumerate", "zip", "reversed"):
            left.extend(node.args)
        if isinstance(node, ast.Call) and isinstance(node.func, ast.Attribute):
            left.append(node.func.value)


def of_places(tree):
    """What depends on where a thing stands."""
    parents = parents_in(tree)
    classes = {node.name for node in tree.body if isinstance(node, ast.ClassDef)}
    imported = {one.name for node in tree.body if isinstance(node, ast.ImportFrom) for one in node.names}
    kept = {node.targets[0].id for node in tree.body
            if isinstance(node, ast.Assign) and isinstance(node.value, (ast.List, ast.Dict))}
    for node in ast.walk(tree):
        parent = parents.get(node)
        if called_name(node) in ("zip", "enumerate", "reversed", "range") and not is_walked(node, parent):
            yield "L23 kept", node.lineno
        if isinstance(node, ast.Attribute) and node.attr in ("items", "keys", "values"):
            if not is_walked(parent, parents.get(parent)):
                yield "L23 kept", node.lineno
        if isinstance(node, ast.For) and set(changed_in(node)) & set(walked_in(node)):
            yield "L23 changed", node.lineno
        if called_name(node) in ("set", "frozenset") and not (
                isinstance(parent, ast.Compare) or called_name(parent) in ("sorted", "len")):
            yield "L24 set", node.lineno
        if isinstance(node, ast.Attribute) and node.attr in METHODS and not (
                isinstance(parent, ast.Call) and parent.func is node):
            yield "L25 method handed on", node.lineno
        if isinstance(node, ast.Name) and node.id in kept and isinstance(parent, (ast.Return, ast.Assign, ast.Call)):
            if parents.get(parent) is not None and called_name(parent) not in ("len", "list", "dict", "sorted"):
                if not (isinstance(parent, ast.Assign) and node in parent.targets):
                    yield "L15 handed on", node.lineno
        if isinstance(node, ast.BinOp) and isinstance(node.op, ast.Pow) and not isinstance(node.right, ast.Constant):
            yield "L27 power", node.lineno
        if isinstance(node, ast.Assign) and isinstance(node.targets[0], (ast.Tuple, ast.List)):
            yield "L6 targets", node.lineno
        if isinstance(node, ast.arg) and node.annotation or isinstance(node, ast.FunctionDef) and node.returns:
            yield "L21 annotation", node.lineno
        if isinstance(node, ast.keyword) and node.arg not in ("key", "reverse", "default", "start", "strict"):
            yield "L22 keyword", node.value.lineno
        local = node.arg if isinstance(node, ast.arg) else None
        if isinstance(node, ast.Name) and isinstance(node.ctx, ast.Store):
            local = node.id
        if local in classes | imported:
            yield "L15 local", node.lineno
        if isinstance(node, ast.Name) and node.id in classes and not (
                isinstance(parent, (ast.Call, ast.ClassDef, ast.ExceptHandler))):
            yield "L18 class", node.lineno


def of_names(tree):
    for node, name in bound_names(tree):
        if name in SPECIAL:
            continue
        if not name.isascii() or name.startswith("_"):
            yield "L12 name", node.lineno
        if hasattr(builtins, name) or name in UNUSED_NAMES:
            yield "L15 name", node.lineno


def complaints(source, methods=frozenset()):
    tree = ast.parse(source)
    docstring = tree.body[0] if tree.body and is_docstring(tree.body[0]) else None
    found = list(of_text(source)) + list(of_top(tree)) + list(of_names(tree)) + list(of_places(tree))
    methods = methods | own_methods([tree])
    for node in ast.walk(tree):
        if isinstance(node, ast.stmt):
            found += [(words, node.lineno) for words in of_statement(node, docstring)]
        elif isinstance(node, ast.expr):
            found += [(words, node.lineno) for words in of_expression(node, methods)]
    return found


def drawn_from(tree):
    return {node.module for node in ast.walk(tree) if isinstance(node, ast.ImportFrom)}


class Language(unittest.TestCase):
    def setUp(self):
        self.sources = {path.stem: path.read_text("utf-8") for path in sorted(PACKAGE.glob("*.py"))}
        self.trees = {name: ast.parse(source) for name, source in self.sources.items()}

    def test_files(self):
        names = {path.name for path in PACKAGE.iterdir() if path.name != "__pycache__"}
        self.assertIn("__init__.py", names)
        for name in sorted(names - {"__init__.py"}):
            self.assertRegex(name, r"^[a-z][a-z0-9_]*\.py$")
            self.assertFalse(hasattr(builtins, name[:-3]) or name.startswith("test"), name)

    def test_rules(self):
        methods = own_methods(self.trees.values())
        for name, source in self.sources.items():
            with self.subTest(file=name):
                self.assertEqual(complaints(source, methods), [])

    def test_no_two_files_draw_from_one_another(self):
        drawn = {"tranchefall." + name: drawn_from(tree) for name, tree in self.trees.items()}
        left = dict(drawn)
        while left:
            free = [name for name in left if not drawn[name] & set(left)]
            self.assertTrue(free, f"L16 a ring among {sorted(left)}")
            for name in free:
                del left[name]

    def test_names_are_drawn_from_the_file_that_defines_them(self):
        for tree in self.trees.values():
            for node in [one for one in ast.walk(tree) if isinstance(one, ast.ImportFrom)]:
                source = self.trees[node.module.split(".")[1]]
                defined = {one.name for one in source.body if isinstance(one, (ast.FunctionDef, ast.ClassDef))}
                self.assertLessEqual({one.name for one in node.names}, defined)

    def test_values_of_objects_are_named_freely(self):
        python_own = set()
        for kind in (str, int, list, dict, set, bytes, tuple):
            python_own |= set(dir(kind))
        for tree in self.trees.values():
            for node in ast.walk(tree):
                if isinstance(node, ast.Attribute) and isinstance(node.ctx, ast.Store):
                    self.assertNotIn(node.attr, python_own)

    def test_no_name_is_both_a_method_and_a_value(self):
        values = {
            node.attr for tree in self.trees.values() for node in ast.walk(tree)
            if isinstance(node, ast.Attribute) and isinstance(node.ctx, ast.Store)
        }
        self.assertEqual(values & own_methods(self.trees.values()), set())


class Complaints(unittest.TestCase):
    """The walk sees what it is there to see."""

    def test_bad_sources(self):
        for source, rule in (
            ("import os\n", "L6"), ("from os import path\n", "L2"), ("from tranchefall.words import *\n", "L2"),
            ("a = f()\n", "L3"), ("a = [[1]]\n", "L15"), ("a = 1\na = 2\n", "L15"),
            ("def f(*a):\n    pass\n", "L4"), ("def f():\n    'words'\n", "L6"), ("def f():\n    a = b = 1\n", "L6"),
            ("def f():\n    with x:\n        pass\n", "L6"), ("def f():\n    return 1 / 2\n", "L7"),
            ("def f():\n    return 1.5\n", "L7"), ("def f():\n    return {x for x in y}\n", "L7"),
            ("def f():\n    return any(x for x in y)\n", "L7"), ("def f(x):\n    return x is x\n", "L20"),
            ("def f():\n    return eval('1')\n", "L8"), ("def f():\n    return x.title()\n", "L25"),
            ("def f():\n    return 'a % b'\n", "L27"), ("def _f():\n    pass\n", "L12"),
            ("def f(id):\n    pass\n", "L15"), ("# a type\n", "L17"), ("# \xe9\n", "L14"),
            ("def f(x):\n    a = zip(x)\n", "L23"), ("def f(x):\n    return x.items()\n", "L23"),
            ("def f(x):\n    for a in x:\n        x.append(a)\n", "L23"),
            ("def f(x):\n    for a in x.items():\n        x[a] = 1\n", "L23"), ("def f(x):\n    return set(x)\n", "L24"),
            ("def f(x):\n    return x.get\n", "L25"), ("a = [1]\ndef f():\n    return a\n", "L15"),
            ("a = {}\ndef f():\n    g(a)\n", "L15"), ("def f(x):\n    return 2 ** x\n", "L27"),
            ("def f(x):\n    a, b = x\n", "L6"), ("def f(x: int):\n    pass\n", "L21"), ("def f():\n    g(x=1)\n", "L22"),
            ("from tranchefall.words import is_name\ndef f(is_name):\n    pass\n", "L15"),
            ("class C:\n    pass\ndef f():\n    return [C]\n", "L18"),
            ("def f():\n" + "    pass\n" * 40, "L10"), ("class C:\n    a = 1\n", "L5"), ("#" * 121 + "\n", "L10"),
        ):
            with self.subTest(source=source):
                self.assertIn(rule, [words.split()[0] for words, _ in complaints(source)])


if __name__ == "__main__":
    unittest.main()
