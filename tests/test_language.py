"""The package keeps to the small part of Python that is asked for (LANGUAGE.md, those rules that a test can see)."""

import ast
import re
import unittest
from pathlib import Path

PACKAGE = Path(__file__).resolve().parent.parent / "kinlook"

STATEMENTS = (
    ast.FunctionDef, ast.ClassDef, ast.Return, ast.Assign, ast.AugAssign, ast.AnnAssign, ast.For, ast.While, ast.If,
    ast.Raise, ast.Try, ast.ImportFrom, ast.Expr, ast.Pass, ast.Break, ast.Continue,
)
EXPRESSIONS = (
    ast.BoolOp, ast.BinOp, ast.UnaryOp, ast.Lambda, ast.IfExp, ast.Dict, ast.Set, ast.ListComp, ast.Compare, ast.Call,
    ast.JoinedStr, ast.FormattedValue, ast.Constant, ast.Attribute, ast.Subscript, ast.Name, ast.List, ast.Tuple,
    ast.Slice,
)
BUILT_IN = (
    "len range enumerate zip min max sum abs sorted reversed int str bool list tuple dict set frozenset isinstance ord "
    "repr any all divmod Exception ValueError TypeError KeyError IndexError LookupError ZeroDivisionError "
    "ArithmeticError OverflowError RuntimeError NotImplementedError AttributeError StopIteration"
).split()
METHODS = (
    "append clear copy count endswith extend find get index insert isalnum isalpha isdigit islower isspace isupper "
    "items join keys ljust lower lstrip partition pop remove replace reverse rfind rjust rpartition rsplit rstrip "
    "setdefault split splitlines startswith strip update upper values zfill bit_length"
).split()
OWN_DUNDERS = "__init__ __eq__ __repr__ __str__ __len__".split()
NEVER_NAMES = "register mro elements open input version_info with_traceback add_note".split()
NEVER_WORDS = (
    "type typing typing_extensions enum Enum IntEnum StrEnum Flag IntFlag Generic Protocol ABC ABCMeta namedtuple "
    "NamedTuple TypedDict TYPE_CHECKING abstractmethod"
).split()
WALKED = "zip enumerate reversed range".split()
WALKERS = "list tuple dict sorted sum any all enumerate zip min max".split()
NEVER_WITHIN = ("dataclass", "overload", "contextmanager")
PYTHONS_OWN = dir(__builtins__) if not isinstance(__builtins__, dict) else list(__builtins__)


def bound_names(tree):
    found = []
    for node in ast.walk(tree):
        if isinstance(node, (ast.FunctionDef, ast.ClassDef)):
            found.append(node.name)
        elif isinstance(node, ast.Name) and isinstance(node.ctx, ast.Store):
            found.append(node.id)
        elif isinstance(node, ast.arg):
            found.append(node.arg)
        elif isinstance(node, ast.ImportFrom):
            found.extend(alias.asname or alias.name for alias in node.names)
    return found


def top_names(tree):
    found = []
    for node in tree.body:
        if isinstance(node, (ast.FunctionDef, ast.ClassDef)):
            found.append(node.name)
        elif isinstance(node, ast.Assign):
            found.extend(ast.unparse(target) for target in node.targets)
        elif isinstance(node, ast.ImportFrom):
            found.extend(alias.asname or alias.name for alias in node.names)
    return found


def faults_of_text(text):
    faults = []
    rows = text.split("\n")
    if len(rows) - 1 > 400:
        faults.append("L10 file")
    if any(len(row) > 120 for row in rows):
        faults.append("L10 line")
    if any(not (" " <= sign <= "~" or sign == "\n") for sign in text):
        faults.append("L14 sign")
    words = re.findall(r"\w+", text)
    faults.extend("L17 " + word for word in words if word in NEVER_WORDS or any(part in word for part in NEVER_WITHIN))
    return faults


def faults_of_top(tree):
    faults = []
    for node in tree.body:
        docstring = isinstance(node, ast.Expr) and isinstance(node.value, ast.Constant) and node is tree.body[0]
        if not docstring and not isinstance(node, (ast.ImportFrom, ast.FunctionDef, ast.ClassDef, ast.Assign)):
            faults.append("L3 " + ast.unparse(node))
        if isinstance(node, ast.ImportFrom) and (node.level or not node.module.startswith("kinlook.")):
            faults.append("L2 " + ast.unparse(node))
        if isinstance(node, ast.Assign) and any(isinstance(part, ast.Call) for part in ast.walk(node)):
            faults.append("L3 " + ast.unparse(node))
    names = top_names(tree)
    faults.extend("L15 " + name for name in set(names) if names.count(name) > 1)
    taken = [name for node in tree.body if isinstance(node, (ast.ImportFrom, ast.ClassDef))
             for name in top_names(ast.Module(body=[node], type_ignores=[]))]
    for node in tree.body:
        if not isinstance(node, ast.ImportFrom):
            inner = bound_names(ast.Module(body=list(ast.iter_child_nodes(node)), type_ignores=[]))
            faults.extend("L15 " + name for name in inner if name in taken)
    return faults


def faults_of_statement(node, tree):
    if not isinstance(node, STATEMENTS):
        return ["L6"]
    if isinstance(node, ast.ImportFrom) and node not in tree.body:
        return ["L2"]
    if isinstance(node, ast.ClassDef):
        plain = all(isinstance(part, (ast.FunctionDef, ast.Pass)) for part in node.body)
        return [] if plain and len(node.bases) <= 1 and not node.decorator_list and node in tree.body else ["L5"]
    if isinstance(node, ast.FunctionDef):
        args = node.args
        if args.vararg or args.kwarg or args.kwonlyargs or args.posonlyargs or node.decorator_list:
            return ["L4"]
        return ["L10 function"] if node.end_lineno - node.lineno + 1 > 40 else []
    if isinstance(node, (ast.For, ast.While)) and node.orelse:
        return ["L6"]
    if isinstance(node, ast.Assign) and len(node.targets) != 1:
        return ["L6"]
    if isinstance(node, ast.Try) and (node.finalbody or any(handler.type is None for handler in node.handlers)):
        return ["L6"]
    return []


def faults_of_expression(node, own, places, methods, walks):
    if not isinstance(node, EXPRESSIONS):
        return ["L7"]
    if isinstance(node, ast.Constant):
        if not isinstance(node.value, (int, str)) and node.value is not None:
            return ["L7"]
        return ["L27"] if isinstance(node.value, str) and "%" in node.value else []
    if isinstance(node, ast.BinOp) and isinstance(node.op, (ast.Div, ast.MatMult)):
        return ["L7"]
    if isinstance(node, ast.ListComp) and (len(node.generators) != 1 or len(node.generators[0].ifs) > 1):
        return ["L7"]
    if isinstance(node, ast.FormattedValue) and (not isinstance(node.value, ast.Name) or node.format_spec):
        return ["L7"]
    if isinstance(node, ast.Compare) and any(isinstance(op, (ast.Is, ast.IsNot)) for op in node.ops):
        sides = [node.left] + node.comparators
        return [] if any(isinstance(side, ast.Constant) and not isinstance(side.value, (int, str))
                         or isinstance(side, ast.Constant) and isinstance(side.value, bool) for side in sides) else ["L20"]
    if isinstance(node, ast.Name) and node.id not in own and node.id not in BUILT_IN:
        return ["L8 " + node.id]
    if isinstance(node, ast.Attribute) and (node.attr in NEVER_NAMES or node.attr in ("format", "format_map")):
        return ["L17 " + node.attr]
    if isinstance(node, ast.Call) and isinstance(node.func, ast.Attribute):
        if node.func.attr in ("items", "keys", "values") and node not in walks:
            return ["L23 " + node.func.attr]
        return [] if node.func.attr in METHODS or node.func.attr in methods else ["L25 " + node.func.attr]
    if isinstance(node, ast.Call) and isinstance(node.func, ast.Name) and node.func.id in ("set", "frozenset"):
        return [] if node in places else ["L24"]
    if isinstance(node, ast.Call) and isinstance(node.func, ast.Name) and node.func.id in WALKED:
        return [] if node in walks else ["L23 " + node.func.id]
    return []


def walk_places(tree):
    """Where what is walked at once may stand: behind in, or as the first thing of a call that walks it."""
    found = []
    for node in ast.walk(tree):
        if isinstance(node, (ast.For, ast.comprehension)):
            found.append(node.iter)
        elif isinstance(node, ast.Call) and isinstance(node.func, ast.Name) and node.func.id in WALKERS:
            found.extend(node.args[:1])
        elif isinstance(node, ast.Call) and isinstance(node.func, ast.Attribute) and node.func.attr == "join":
            found.extend(node.args)
    return found


def methods_in(tree):
    return [part.name for node in tree.body if isinstance(node, ast.ClassDef) for part in node.body
            if isinstance(part, ast.FunctionDef)]


def values_in(tree):
    return [node.attr for node in ast.walk(tree) if isinstance(node, ast.Attribute) and isinstance(node.ctx, ast.Store)]


def set_places(tree):
    """Where a set may stand: straight within sorted or len, beside in, == and !=."""
    found = []
    for node in ast.walk(tree):
        if isinstance(node, ast.Call) and isinstance(node.func, ast.Name) and node.func.id in ("sorted", "len"):
            found.extend(node.args)
        if isinstance(node, ast.Compare):
            found.extend([node.left] + node.comparators)
    for node in found:
        if isinstance(node, ast.BinOp):
            found.extend([node.left, node.right])
    return found


def faults_of(text, methods=()):
    """The rules that a file's text breaks, as far as they are seen here; methods are those of the package's classes."""
    tree = ast.parse(text)
    own = bound_names(tree)
    faults = faults_of_text(text) + faults_of_top(tree)
    for name in own:
        if name.startswith("_") and name not in OWN_DUNDERS or not re.fullmatch("[A-Za-z0-9_]+", name):
            faults.append("L12 " + name)
        if name in PYTHONS_OWN or name in NEVER_NAMES:
            faults.append("L15 " + name)
    places = set_places(tree)
    walks = walk_places(tree)
    for node in ast.walk(tree):
        if isinstance(node, ast.stmt):
            faults.extend(faults_of_statement(node, tree))
        elif isinstance(node, ast.expr):
            faults.extend(faults_of_expression(node, own, places, methods, walks))
    return faults


class Language(unittest.TestCase):
    def files(self):
        return sorted(path for path in PACKAGE.rglob("*") if "__pycache__" not in path.parts)

    def test_files(self):
        self.assertIn(PACKAGE / "__init__.py", self.files())
        for path in self.files():
            self.assertTrue(path.is_file() and re.fullmatch(r"[a-z0-9_]+\.py", path.name), path)
            self.assertNotIn(path.stem, PYTHONS_OWN + NEVER_WORDS)

    def trees(self):
        return {path.stem: ast.parse(path.read_text(encoding="utf-8")) for path in self.files()}

    def test_each_file_keeps_to_the_rules(self):
        methods = [name for tree in self.trees().values() for name in methods_in(tree)]
        for path in self.files():
            with self.subTest(path=path.name):
                self.assertEqual(faults_of(path.read_text(encoding="utf-8"), methods), [])

    def test_no_name_is_a_method_and_a_value(self):
        trees = self.trees().values()
        methods = {name for tree in trees for name in methods_in(tree)}
        values = {name for tree in trees for name in values_in(tree)}
        self.assertEqual(methods & values, set())
        for name in values:
            self.assertFalse(any(hasattr(thing, name) for thing in ("", 0, [], {}, set(), b"", ())), name)

    def test_names_are_drawn_from_the_file_that_defines_them(self):
        trees = self.trees()
        for tree in trees.values():
            for node in tree.body:
                if isinstance(node, ast.ImportFrom):
                    source = trees[node.module.split(".")[-1]]
                    defined = [name for part in source.body if not isinstance(part, ast.ImportFrom)
                               for name in top_names(ast.Module(body=[part], type_ignores=[]))]
                    for alias in node.names:
                        self.assertIn(alias.name, defined)
                        used = [part.id for part in ast.walk(tree) if isinstance(part, ast.Name)]
                        self.assertIn(alias.name, used)

    def test_no_two_files_draw_from_one_another(self):
        drawn = {}
        for path in self.files():
            tree = ast.parse(path.read_text(encoding="utf-8"))
            rows = [node for node in tree.body if isinstance(node, ast.ImportFrom)]
            drawn[path.stem] = {node.module.split(".")[-1] for node in rows}
        while drawn:
            free = [name for name in drawn if not drawn[name] & set(drawn)]
            self.assertNotEqual(free, [], drawn)
            drawn = {name: drawn[name] for name in drawn if name not in free}


class TheLookItself(unittest.TestCase):
    def test_faults_are_seen(self):
        wrong = [
            "import sys", "from os import path", "from .deeds import HIDDEN", "x = y = 1", "x = 1.5", "x = len('a')",
            "print = 3", "x = 1\nx = 2", "def f(*a):\n    return a", "def f():\n    yield 1",
            "def f(x):\n    return x / 2", "def f(x):\n    return {k for k in x}", "def f(x):\n    return print(x)",
            "def f(x):\n    return x.isnumeric()", "def f(x):\n    return x is 'a'", "def f(x):\n    x = set(x)",
            "def f(x):\n    for k in set(x):\n        pass", "def f(x):\n    assert x", "x = '\u00e4'", "# a type",
            "def f(hash):\n    return 1", "def _f():\n    return 1", "class C:\n    x = 1", "x = '%'",
            "def f(x):\n    with x:\n        pass", "def f(x):\n    return f'{x + 1}'",
            "from kinlook.deeds import HIDDEN\ndef f(HIDDEN):\n    return HIDDEN",
            "class C:\n    pass\ndef f(x):\n    C = x\n    return x",
            "def f(x):\n    return x.put(1)", "def f(x):\n    y = range(3)\n    return y",
            "def f(x):\n    return x.items()", "def f(x):\n    return min(1, range(3))",
            "def f(x):\n    return [a for b in x for a in b]", "def f():\n" + "    pass\n" * 40, "x = 1\n" + "\n" * 400,
        ]
        for text in wrong:
            with self.subTest(text=text):
                self.assertNotEqual(faults_of(text), [])

    def test_right_ones_are_let_be(self):
        right = [
            '"""Words."""\n\nfrom kinlook.deeds import HIDDEN\n\nX = (1, "a")\n', "def f(x):\n    return sorted(set(x))",
            "def f(x, y):\n    return len(set(x) - set(y))", "def f(x):\n    return x is None",
            "class C(ValueError):\n    pass", "def f(x):\n    return [k for k in x if k]",
        ]
        for text in right:
            with self.subTest(text=text):
                self.assertEqual(faults_of(text), [])


if __name__ == "__main__":
    unittest.main()
