"""The form of the package's files, as far as a look at each of them tells it."""

import ast
import builtins
import pathlib
import re
import unittest

PACKAGE = pathlib.Path(__file__).resolve().parent.parent / "fanglue"

BARRED_NODES = {
    "L6": (ast.With, ast.Match, ast.Global, ast.Nonlocal, ast.AsyncFunctionDef, ast.AsyncFor, ast.AsyncWith),
    "L7": (ast.GeneratorExp, ast.NamedExpr, ast.Div, ast.Yield, ast.YieldFrom, ast.Await),
}
TOP_ROWS = (ast.ImportFrom, ast.FunctionDef, ast.ClassDef, ast.Assign)
OWN_NAMES = set("""
    len range enumerate zip min max sum abs sorted reversed int str bool bytes list tuple dict set frozenset
    isinstance ord repr any all divmod Exception ValueError TypeError KeyError IndexError LookupError
    ZeroDivisionError ArithmeticError OverflowError RuntimeError NotImplementedError AttributeError StopIteration
""".split())
OWN_METHODS = {"__init__", "__eq__", "__repr__", "__str__", "__len__"}
BARRED_WORDS = re.compile(
    r"\b(type|typing|typing_extensions|enum|Enum|IntEnum|StrEnum|Flag|IntFlag|Generic|Protocol|ABC|ABCMeta"
    r"|namedtuple|NamedTuple|TypedDict|TYPE_CHECKING|abstractmethod)\b|dataclass|overload|contextmanager")
BARRED_NAMES = set("register mro elements open input version_info with_traceback add_note".split())
PYTHON_METHODS = set("""
    append clear copy count endswith extend find get index insert isalnum isalpha isdigit islower isspace isupper items
    join keys ljust lower lstrip partition pop remove replace reverse rfind rjust rpartition rsplit rstrip setdefault
    split splitlines startswith strip update upper values zfill bit_length
""".split())
PYTHON_NAMES = {name for name in dir(builtins) if name[0] != "_"}
WALKED_AT_ONCE = {"zip", "enumerate", "reversed", "range"}
WALKERS = {"list", "tuple", "dict", "sorted", "sum", "any", "all", "enumerate", "zip", "min", "max"}


def text_faults(text):
    rows = text.split("\n")
    if len(rows) > 401:
        yield "L10"
    for row in rows:
        if len(row) > 120:
            yield "L10"
        if re.search(r"[^ -~]", row):
            yield "L14"
    if BARRED_WORDS.search(text):
        yield "L17"


def bound_names(tree):
    """Each name that the file gives: of defs, classes, parameters, locals, handlers."""
    for node in ast.walk(tree):
        if isinstance(node, (ast.FunctionDef, ast.ClassDef, ast.ExceptHandler)) and node.name:
            yield node.name
        elif isinstance(node, ast.arg):
            yield node.arg
        elif isinstance(node, ast.Name) and isinstance(node.ctx, ast.Store):
            yield node.id


def local_names(tree):
    """The parameters and locals of defs, and the defs within defs."""
    for node in ast.walk(tree):
        if isinstance(node, ast.FunctionDef):
            for row in [node.args] + node.body:
                yield from bound_names(row)


def top_names(tree):
    for row in tree.body:
        if isinstance(row, ast.ImportFrom):
            for name in row.names:
                yield name.asname or name.name
        elif isinstance(row, ast.Assign):
            yield from bound_names(row)
        elif isinstance(row, (ast.FunctionDef, ast.ClassDef)):
            yield row.name


def name_faults(tree):
    tops = list(top_names(tree))
    if len(tops) != len(set(tops)):
        yield "L15"
    for name in bound_names(tree):
        if name.startswith("_") and name not in OWN_METHODS:
            yield "L12"
        if name in BARRED_NAMES:
            yield "L17"
    drawn = {name.asname or name.name for row in tree.body if isinstance(row, ast.ImportFrom) for name in row.names}
    classes = {row.name for row in tree.body if isinstance(row, ast.ClassDef)}
    if set(local_names(tree)) & (drawn | classes | PYTHON_NAMES):
        yield "L15"
    for node in ast.walk(tree):
        if isinstance(node, ast.Name) and node.id in PYTHON_NAMES - OWN_NAMES - set(tops):
            yield "L8"
        if isinstance(node, ast.Attribute) and node.attr in ("format", "format_map", "mro"):
            yield "L8"


def top_faults(tree):
    for at, row in enumerate(tree.body):
        docstring = at == 0 and isinstance(row, ast.Expr) and isinstance(row.value, ast.Constant)
        if not docstring and not isinstance(row, TOP_ROWS):
            yield "L2" if isinstance(row, ast.Import) else "L3"
    for node in ast.walk(tree):
        if isinstance(node, ast.ImportFrom):
            whole = node in tree.body and node.level == 0 and node.module.startswith("fanglue.")
            if not whole or any(name.name == "*" for name in node.names):
                yield "L2"


def def_faults(node):
    if node.end_lineno - node.lineno + 1 > 40:
        yield "L10"
    told = node.args
    if told.vararg or told.kwarg or told.posonlyargs or node.decorator_list:
        yield "L4"


def class_faults(node):
    if len(node.bases) > 1 or node.keywords or node.decorator_list:
        yield "L5"
    for at, row in enumerate(node.body):
        if not isinstance(row, ast.FunctionDef) and not (at == 0 and isinstance(row, (ast.Expr, ast.Pass))):
            yield "L5"


def node_faults(node):
    for rule, kinds in BARRED_NODES.items():
        if isinstance(node, kinds):
            yield rule
    if isinstance(node, (ast.For, ast.While)) and node.orelse:
        yield "L6"
    if isinstance(node, ast.Constant) and isinstance(node.value, (float, complex)):
        yield "L7"
    if isinstance(node, ast.Constant) and isinstance(node.value, str) and "%" in node.value:
        yield "L27"
    if isinstance(node, ast.Compare) and any(isinstance(sign, (ast.Is, ast.IsNot)) for sign in node.ops):
        sides = [node.left] + node.comparators
        if not any(isinstance(side, ast.Constant) and side.value in (None, True, False) for side in sides):
            yield "L20"
    if isinstance(node, ast.FunctionDef):
        yield from def_faults(node)
    if isinstance(node, ast.ClassDef):
        yield from class_faults(node)


def is_written(node, kind):
    return isinstance(node, ast.Constant) and type(node.value) is kind


def sign_faults(node):
    """Signs and forms that this package does without altogether, or with written numbers alone."""
    called = getattr(getattr(node, "func", None), "id", "")
    if isinstance(node, (ast.Set, ast.SetComp)) or called in ("set", "frozenset"):
        yield "L24"
    if isinstance(node, ast.Starred):
        yield "L7"
    if isinstance(node, (ast.BinOp, ast.AugAssign)) and isinstance(node.op, ast.Pow):
        power = node.right if isinstance(node, ast.BinOp) else node.value
        if not is_written(power, int) or not 0 <= power.value <= 64:
            yield "L27"
    if isinstance(node, ast.Call) and node.keywords:
        yield "L22"
    if isinstance(node, (ast.AnnAssign, ast.JoinedStr)) or getattr(node, "annotation", None) is not None:
        yield "L21"


def error_faults(node):
    """Errors are raised on the spot by their names, and taken by their names."""
    if isinstance(node, ast.ExceptHandler):
        kinds = node.type.elts if isinstance(node.type, ast.Tuple) else [node.type]
        if not all(isinstance(kind, ast.Name) and kind.id not in PYTHON_NAMES for kind in kinds):
            yield "L19"
    if isinstance(node, ast.Raise) and not (isinstance(node.exc, ast.Call) and isinstance(node.exc.func, ast.Name)):
        yield "L19"


def walked_on_the_spot(tree):
    """The calls that stand where they are walked at once."""
    for node in ast.walk(tree):
        if isinstance(node, (ast.For, ast.comprehension)):
            yield node.iter
        if isinstance(node, ast.Call) and isinstance(node.func, ast.Name) and node.func.id in WALKERS:
            yield from node.args[:1]


def walk_faults(tree):
    at_once = set(walked_on_the_spot(tree))
    for node in ast.walk(tree):
        if isinstance(node, ast.Call) and node not in at_once:
            name = getattr(node.func, "id", getattr(node.func, "attr", ""))
            if name in WALKED_AT_ONCE or name in ("items", "keys", "values"):
                yield "L23"


def changed_things(row):
    """The names of what a row changes: by an item that is given, or by a method that changes."""
    for node in ast.walk(row):
        if isinstance(node, ast.Subscript) and not isinstance(node.ctx, ast.Load):
            yield ast.unparse(node.value)
        if isinstance(node, ast.Call) and isinstance(node.func, ast.Attribute) and node.func.attr in (
                "append", "clear", "extend", "insert", "pop", "remove", "reverse", "setdefault", "update", "sort"):
            yield ast.unparse(node.func.value)


def loop_faults(tree):
    for node in ast.walk(tree):
        if isinstance(node, ast.For):
            walked = {ast.unparse(part) for part in ast.walk(node.iter) if isinstance(part, (ast.Name, ast.Attribute))}
            if any(walked & set(changed_things(row)) for row in node.body):
                yield "L23"


def faults(text):
    """The rules that the file breaks, each once."""
    tree = ast.parse(text)
    found = list(text_faults(text)) + list(name_faults(tree)) + list(top_faults(tree))
    found += list(walk_faults(tree)) + list(loop_faults(tree))
    for node in ast.walk(tree):
        found += list(node_faults(node)) + list(sign_faults(node)) + list(error_faults(node))
    return sorted(set(found))


def own_methods_and_values(trees):
    """The methods that the package's classes have, and the values that they give their objects."""
    methods, values = [], set()
    for tree in trees:
        for node in ast.walk(tree):
            if isinstance(node, ast.ClassDef):
                methods += [row.name for row in node.body if isinstance(row, ast.FunctionDef)]
            if isinstance(node, ast.Attribute) and isinstance(node.ctx, ast.Store):
                values.add(node.attr)
    return set(methods) - OWN_METHODS, values


def asked_of_things(tree):
    """The methods that the file calls, and the values that it asks."""
    called = {node.func for node in ast.walk(tree) if isinstance(node, ast.Call)}
    dotted = [node for node in ast.walk(tree) if isinstance(node, ast.Attribute)]
    return {node.attr for node in dotted if node in called}, {node.attr for node in dotted if node not in called}


def drawn_by(path):
    """The files from which this one draws, with the names drawn."""
    for row in ast.parse(path.read_text()).body:
        if isinstance(row, ast.ImportFrom):
            yield row.module.split(".")[1], [name.name for name in row.names]


class Files(unittest.TestCase):
    def paths(self):
        return sorted(path for path in PACKAGE.iterdir() if path.name != "__pycache__")

    def test_plain_names_alone(self):
        for path in self.paths():
            self.assertRegex(path.name, r"^(__init__|__main__|[a-z][a-z0-9_]*)\.py$")
        self.assertIn(PACKAGE / "__init__.py", self.paths())
        self.assertLessEqual(len(self.paths()), 100)

    def test_each_keeps_to_the_form(self):
        for path in self.paths():
            with self.subTest(path=path.name):
                self.assertEqual(faults(path.read_text(encoding="utf-8")), [])

    def test_methods_and_values(self):
        trees = [ast.parse(path.read_text()) for path in self.paths()]
        methods, values = own_methods_and_values(trees)
        self.assertEqual(methods & values, set())
        for tree in trees:
            called, asked = asked_of_things(tree)
            self.assertLessEqual(called, methods | PYTHON_METHODS)
            self.assertLessEqual(asked, values)

    def test_names_are_drawn_from_the_file_that_defines_them(self):
        for path in self.paths():
            for module, names in drawn_by(path):
                source = ast.parse((PACKAGE / (module + ".py")).read_text())
                own = [row.name for row in source.body if isinstance(row, (ast.FunctionDef, ast.ClassDef))]
                own += [name for row in source.body if isinstance(row, ast.Assign) for name in bound_names(row)]
                self.assertLessEqual(set(names), set(own), path.name)

    def test_no_two_draw_from_one_another(self):
        draws = {path.stem: {module for module, names in drawn_by(path)} for path in self.paths()}
        while draws:
            free = [name for name, drawn in draws.items() if not drawn & set(draws)]
            self.assertTrue(free, sorted(draws))
            for name in free:
                del draws[name]


class Looks(unittest.TestCase):
    def test_breaches_are_seen(self):
        for text, rule in [
                ("import math\n", "L2"), ("from math import gcd\n", "L2"), ("from fanglue.errors import *\n", "L2"),
                ("print(1)\n", "L3"), ("def f(*a):\n    return a\n", "L4"), ("class A:\n    k = 1\n", "L5"),
                ("def f(p):\n    for k in p:\n        pass\n    else:\n        pass\n", "L6"),
                ("def f(p):\n    return p / 2\n", "L7"), ("K = 0.5\n", "L7"),
                ("def f(p):\n    return all(k for k in p)\n", "L7"), ("def f(p):\n    return hash(p)\n", "L8"),
                ("def f(p):\n" + "    p += 1\n" * 40 + "    return p\n", "L10"), ("K = 1\n" * 401, "L10"),
                ("# " + "x" * 120 + "\n", "L10"), ("def f(_k):\n    return _k\n", "L12"), ("# \u00fc\n", "L14"),
                ("K = 1\nK = 2\n", "L15"), ("def f(min):\n    return min\n", "L15"),
                ("from fanglue.a import k\n\n\ndef f(k):\n    return k\n", "L15"), ("# a type\n", "L17"),
                ("def f(p, q):\n    return p is q\n", "L20"), ("K = '5%'\n", "L27"),
                ("def f(p):\n    return 2 ** p\n", "L27"), ("def f(p):\n    return 2 ** 65\n", "L27"),
                ("def f(p):\n    return set(p)\n", "L24"), ("def f(p):\n    return {k for k in p}\n", "L24"),
                ("def f(p):\n    return [*p]\n", "L7"), ("def f(p: int):\n    return p\n", "L21"),
                ("def f(p):\n    return sorted(p, reverse=True)\n", "L22"),
                ("def f(p):\n    try:\n        g(p)\n    except Exception:\n        return p\n", "L19"),
                ("def f(p):\n    try:\n        g(p)\n    except:\n        return p\n", "L19"),
                ("def f(p):\n    raise p\n", "L19"), ("def f(p):\n    k = zip(p, p)\n    return k\n", "L23"),
                ("def f(p):\n    return len(reversed(p))\n", "L23"), ("def f(p):\n    k = p.items()\n", "L23"),
                ("def f(p):\n    for k in p:\n        p.append(k)\n", "L23"),
                ("def f(p):\n    for k in enumerate(p):\n        p[k] = 1\n", "L23")]:
            with self.subTest(text=text[:40]):
                self.assertIn(rule, faults(text))

    def test_a_plain_file_has_none(self):
        for text in [
                '"""A file."""\n\nK = 1\n\n\ndef f(p):\n    return p is None or p % 2 == K\n',
                "def f(p):\n    return [k * 10 ** 64 for k in range(p)] + list(zip(p, p))\n",
                "def f(p, d):\n    for k in enumerate(p):\n        d[k] = p[0]\n    return max(range(3))\n"]:
            self.assertEqual(faults(text), [])


if __name__ == "__main__":
    unittest.main()
