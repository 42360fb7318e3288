"""The package's files keep to the form of ../shared/LANGUAGE.md, as far as their text shows it."""

import ast
import builtins
import pathlib
import re
import unittest

PACKAGE = pathlib.Path(__file__).resolve().parent.parent / "hushrow"

# L6 and L7: what a file may be made of.
NODES = (
    ast.Module, ast.ImportFrom, ast.alias, ast.FunctionDef, ast.arguments, ast.arg, ast.ClassDef, ast.Lambda,
    ast.Assign, ast.AugAssign, ast.If, ast.While, ast.For, ast.Return, ast.Break, ast.Continue, ast.Pass,
    ast.Raise, ast.Try, ast.ExceptHandler, ast.Expr, ast.Call, ast.keyword, ast.Name, ast.Attribute,
    ast.Subscript, ast.Slice, ast.Constant, ast.List, ast.Tuple, ast.Dict, ast.Set, ast.BinOp, ast.UnaryOp,
    ast.BoolOp, ast.Compare, ast.IfExp, ast.ListComp, ast.comprehension, ast.JoinedStr, ast.FormattedValue,
    ast.expr_context, ast.operator, ast.unaryop, ast.boolop, ast.cmpop,
)
# L8, without chr (L27) and print.
BUILT_IN = set(
    "len range enumerate zip min max sum abs sorted reversed int str bool list tuple dict set frozenset "
    "isinstance ord repr any all divmod Exception ValueError TypeError KeyError IndexError LookupError "
    "ZeroDivisionError ArithmeticError OverflowError RuntimeError NotImplementedError AttributeError "
    "StopIteration".split()
)
# L5.
DUNDERS = set("__init__ __eq__ __repr__ __str__ __len__".split())
# L25.
METHODS = set(
    "append clear copy count endswith extend find get index insert isalnum isalpha isdigit islower isspace "
    "isupper items join keys ljust lower lstrip partition pop remove replace reverse rfind rjust rpartition "
    "rsplit rstrip setdefault split splitlines startswith strip update upper values zfill bit_length".split()
)
# L17.
NO_NAMES = set("register mro elements open input version_info with_traceback add_note format format_map".split())
NO_WORDS = re.compile(
    r"\b(type|typing|typing_extensions|enum|Enum|IntEnum|StrEnum|Flag|IntFlag|Generic|Protocol|ABC|ABCMeta|"
    r"namedtuple|NamedTuple|TypedDict|TYPE_CHECKING|abstractmethod)\b|dataclass|overload|contextmanager"
)


# L22: the keywords that Python's own names are called with.
KEYWORDS = {
    "sorted": {"key", "reverse"}, "min": {"key", "default"}, "max": {"key", "default"},
    "sum": {"start"}, "enumerate": {"start"}, "zip": {"strict"},
}
# L23: what is walked on the spot, and what may walk it.
WALKED = {"zip", "enumerate", "reversed", "range", "items", "keys", "values"}
WALKERS = {"list", "tuple", "dict", "sorted", "sum", "any", "all", "enumerate", "zip"}


def sources():
    return {path.stem: path.read_text(encoding="utf-8") for path in sorted(PACKAGE.glob("*.py"))}


def named(tree):
    """All names that a file binds: by defs, classes, imports, parameters and assignments."""
    found = set()
    for node in ast.walk(tree):
        if isinstance(node, (ast.FunctionDef, ast.ClassDef, ast.alias)):
            found.add(node.name)
        elif isinstance(node, ast.arg):
            found.add(node.arg)
        elif isinstance(node, ast.ExceptHandler) and node.name:
            found.add(node.name)
        elif isinstance(node, ast.Name) and isinstance(node.ctx, ast.Store):
            found.add(node.id)
    return found


def methods_and_values(trees):
    """The names of all methods, and of all values, that the package's own classes have."""
    methods, values = set(), set()
    for tree in trees:
        for node in ast.walk(tree):
            if isinstance(node, ast.ClassDef):
                methods |= {part.name for part in node.body if isinstance(part, ast.FunctionDef)}
            elif isinstance(node, ast.Attribute) and isinstance(node.ctx, ast.Store):
                values.add(node.attr)
    return methods, values


def top_names(tree):
    """What a file defines at its top."""
    found = set()
    for node in tree.body:
        if isinstance(node, (ast.FunctionDef, ast.ClassDef)):
            found.add(node.name)
        elif isinstance(node, ast.Assign):
            found |= {target.id for target in node.targets}
    return found


def drawn_from(tree):
    return {node.module.removeprefix("hushrow.") for node in tree.body if isinstance(node, ast.ImportFrom)}


def in_a_ring(trees):
    """The files from which one comes back to themselves by imports."""
    drawn = {stem: drawn_from(tree) for stem, tree in trees.items()}
    found = []
    for stem in drawn:
        behind, waiting = set(), list(drawn[stem])
        while waiting:
            one = waiting.pop()
            if one not in behind:
                behind.add(one)
                waiting += drawn[one]
        if stem in behind:
            found.append(stem)
    return found


def text_faults(text):
    lines = text.split("\n")
    if re.search(r"[^\n -~]", text):
        yield "L14: a sign beyond the blank to ~"
    if len(lines) > 401 or max(len(line) for line in lines) > 120:
        yield "L10: a file or line too long"
    if NO_WORDS.search(text):
        yield "L17: a word that is not used"


def top_faults(tree, defined):
    body = tree.body
    if body and isinstance(body[0], ast.Expr) and isinstance(body[0].value, ast.Constant):
        body = body[1:]
    bound = []
    for node in body:
        if isinstance(node, ast.ImportFrom):
            home = defined.get((node.module or "").removeprefix("hushrow."), set())
            if node.level or not set(a.name for a in node.names) <= home:
                yield f"L2, L16: an import not from the file that defines it, line {node.lineno}"
            bound += [a.asname or a.name for a in node.names]
        elif isinstance(node, (ast.FunctionDef, ast.ClassDef)):
            bound.append(node.name)
        elif isinstance(node, ast.Assign) and not any(
            isinstance(part, (ast.Call, ast.BinOp, ast.Set, ast.ListComp)) for part in ast.walk(node)
        ):
            bound += [target.id for target in node.targets]
        else:
            yield f"L3: not for the top of a file, line {node.lineno}"
    if len(bound) != len(set(bound)):
        yield "L15: a name bound twice at the top"


def def_faults(node):
    last = node.end_lineno - node.lineno + 1
    args = node.args
    if last > 40:
        yield "L10: a function too long"
    if node.decorator_list or args.vararg or args.kwarg or args.kwonlyargs or args.posonlyargs:
        yield "L4: a decorator or a parameter that isn't plain"
    if set(a.arg for a in args.args) & set(dir(builtins)):
        yield "L15: a parameter called like a name of Python's own"
    if node.returns or any(a.annotation for a in args.args):
        yield "L21: an annotation"


def local_faults(tree):
    taken = set()
    for node in tree.body:
        if isinstance(node, ast.ImportFrom):
            taken |= {a.asname or a.name for a in node.names}
        elif isinstance(node, ast.ClassDef):
            taken.add(node.name)
    for top in tree.body:
        for node in ast.walk(top) if isinstance(top, (ast.FunctionDef, ast.ClassDef)) else []:
            name = node.arg if isinstance(node, ast.arg) else None
            if isinstance(node, ast.Name) and isinstance(node.ctx, ast.Store):
                name = node.id
            if isinstance(node, ast.ExceptHandler):
                name = node.name
            if name in taken:
                yield f"L15: {name} is a class or an import of the file"


def called_name(node):
    if not isinstance(node, ast.Call):
        return None
    return node.func.id if isinstance(node.func, ast.Name) else getattr(node.func, "attr", None)


def may_walk(node, parent):
    if isinstance(parent, (ast.For, ast.comprehension)):
        return parent.iter is node
    name = called_name(parent)
    if name in {"min", "max"}:
        return len(parent.args) == 1
    if name == "join":
        return isinstance(parent.func.value, ast.Constant)
    return name in WALKERS and (parent.args[0] is node or name == "zip")


def may_hold_a_set(parent):
    return (
        called_name(parent) in {"sorted", "len"} and not parent.keywords
        or isinstance(parent, (ast.Compare, ast.BinOp))
    )


def call_faults(tree):
    for parent in ast.walk(tree):
        for node in ast.iter_child_nodes(parent):
            name = called_name(node)
            if name in WALKED and not may_walk(node, parent):
                yield f"L23: {name} is not walked on the spot, line {node.lineno}"
            if name in {"set", "frozenset"} and not may_hold_a_set(parent):
                yield f"L24: a set is kept, line {node.lineno}"
            if isinstance(node, ast.Call) and (name in BUILT_IN or name in METHODS):
                if not {word.arg for word in node.keywords} <= KEYWORDS.get(name, set()):
                    yield f"L22: a keyword at {name}, line {node.lineno}"


def changed_name(node):
    """What is changed by this node, as text, or None."""
    if isinstance(node, ast.Subscript) and isinstance(node.ctx, ast.Store):
        return ast.unparse(node.value)
    if isinstance(node, ast.Call) and isinstance(node.func, ast.Attribute) and node.func.attr in {
        "append", "clear", "extend", "insert", "pop", "remove", "reverse", "setdefault", "update",
    }:
        return ast.unparse(node.func.value)
    return None


def walk_faults(node):
    walked = {ast.unparse(part) for part in ast.walk(node.iter) if isinstance(part, (ast.Name, ast.Attribute))}
    for part in node.body:
        for inner in ast.walk(part):
            if changed_name(inner) in walked:
                yield f"L23: what a loop walks is changed in it, line {inner.lineno}"


def error_faults(node):
    named = node.type.elts if isinstance(node.type, ast.Tuple) else [node.type]
    if any(part is None or getattr(part, "id", "") in {"Exception", "TypeError"} for part in named):
        yield f"L19: a handler of too much, line {node.lineno}"


def class_faults(node):
    if node.decorator_list or node.keywords or len(node.bases) > 1:
        yield "L5: not a plain class"
    if not all(isinstance(part, (ast.FunctionDef, ast.Pass)) for part in node.body):
        yield "L5: a value in the class body"


def name_faults(node, known, own):
    name = node.id if isinstance(node, ast.Name) else node.attr
    if name.startswith("_") and name not in DUNDERS or name in NO_NAMES:
        yield f"L12, L17: the name {name}"
    if isinstance(node, ast.Name) and name not in known | BUILT_IN:
        yield f"L8: the name {name}"
    if isinstance(node, ast.Name) and isinstance(node.ctx, ast.Store) and name in dir(builtins):
        yield f"L15: the name {name} of Python's own"
    if isinstance(node, ast.Attribute) and name not in METHODS | own | DUNDERS:
        yield f"L25: the method or value {name}"


def small_faults(node):
    if isinstance(node, ast.Constant) and not isinstance(node.value, (int, str, type(None))):
        yield "L7: a float or bytes"
    if isinstance(node, ast.Constant) and isinstance(node.value, str) and "%" in node.value:
        yield "L27: % in a text"
    if isinstance(node, (ast.Div, ast.MatMult)):
        yield "L7: / or @"
    if isinstance(node, ast.BinOp) and isinstance(node.op, ast.Pow) and not isinstance(node.right, ast.Constant):
        yield "L27: an exponent that isn't written"
    if isinstance(node, ast.Compare) and any(isinstance(op, (ast.Is, ast.IsNot)) for op in node.ops):
        if not (isinstance(node.comparators[0], ast.Constant) and node.comparators[0].value in (None, True, False)):
            yield "L20: is beside another thing than None, True, False"
    if isinstance(node, (ast.For, ast.While)) and node.orelse or isinstance(node, ast.Try) and node.finalbody:
        yield "L6: else behind a loop, or finally"
    if isinstance(node, ast.Assign) and len(node.targets) > 1:
        yield "L6: more than one target"
    if isinstance(node, ast.FormattedValue):
        if not isinstance(node.value, ast.Name) or node.format_spec or node.conversion not in (-1, ord("r")):
            yield "L7: more than a name within an f-string's braces"
    if isinstance(node, ast.For):
        yield from walk_faults(node)
    if isinstance(node, ast.ExceptHandler):
        yield from error_faults(node)
    if isinstance(node, ast.ListComp) and (len(node.generators) > 1 or len(node.generators[0].ifs) > 1):
        yield "L7: a comprehension with more than one for or if"


def faults(text, own, defined):
    """All faults of one file; own and defined are the whole package's."""
    tree = ast.parse(text)
    found = list(text_faults(text)) + list(top_faults(tree, defined))
    found += list(local_faults(tree)) + list(call_faults(tree))
    known = named(tree)
    for node in ast.walk(tree):
        if not isinstance(node, NODES):
            found.append(f"L6, L7: {type(node).__name__}")
        if isinstance(node, ast.FunctionDef):
            found += def_faults(node)
        elif isinstance(node, ast.ClassDef):
            found += class_faults(node)
        elif isinstance(node, (ast.Name, ast.Attribute)):
            found += name_faults(node, known, own)
        found += small_faults(node)
    return found


class Form(unittest.TestCase):
    def test_nothing_but_plain_files(self):
        for path in PACKAGE.iterdir():
            if path.name != "__pycache__":
                self.assertRegex(path.name, r"^([a-z0-9][a-z0-9_]*|__init__|__main__)\.py$")

    def test_each_file(self):
        trees = {stem: ast.parse(text) for stem, text in sources().items()}
        defined = {stem: top_names(tree) for stem, tree in trees.items()}
        methods, values = methods_and_values(trees.values())
        own = methods | values
        self.assertIn("__init__", trees)
        for stem, text in sources().items():
            with self.subTest(file=stem):
                self.assertEqual(faults(text, own, defined), [])

    def test_the_init_binds_nothing(self):
        self.assertEqual(named(ast.parse(sources()["__init__"])), set())

    def test_no_two_files_draw_from_one_another(self):
        self.assertEqual(in_a_ring({stem: ast.parse(text) for stem, text in sources().items()}), [])

    def test_no_name_is_both_a_method_and_a_value(self):
        methods, values = methods_and_values([ast.parse(text) for text in sources().values()])
        self.assertEqual(methods & values, set())


class FormIsSeen(unittest.TestCase):
    """A check that finds no fault anywhere would be worth nothing."""

    def test_faults_are_found(self):
        for text in [
            "import os\n", "from hushrow.errors import *\n", "from os import path\n", "from .errors import Leak\n",
            "x = 1\nx = 2\n", "x = len([])\n", "print(1)\n", "def f(*a):\n    return a\n", "def f(id):\n    return id\n",
            "@f\ndef f():\n    return 1\n", "class A:\n    x = 1\n", "class A(B, C):\n    pass\n",
            "def f(x):\n    return x / 2\n", "def f(x):\n    return 2 ** x\n", "def f(x):\n    return x is f\n",
            "def f(x):\n    return 1.5\n", "def f(x):\n    return {k for k in x}\n", "def f(x):\n    del x\n",
            "def f(x):\n    return hash(x)\n", "def f(x):\n    x.sort()\n", "def f(x):\n    with x:\n        pass\n",
            "def f(x):\n    x_ = y\n", "def f(_x):\n    return _x\n", "# the type\n", "# \u00e4\n", "x =\t1\n",
            "# " + "x" * 120 + "\n", "def f():\n" + "    pass\n" * 40, "# x\n" * 401,
            "def f(x):\n    return [a for b in x for a in b]\n", "def f(x):\n    list = x\n    return list\n",
            "from hushrow.errors import Leak\n\n\ndef f(x):\n    Leak = x\n    return Leak\n",
            "from hushrow.errors import Leak\n\n\ndef f(x):\n    return [Leak for Leak in x]\n",
            "class A:\n    pass\n\n\ndef f(A):\n    return A\n", "def f(x: int):\n    return x\n",
            "def f(x):\n    return f'{x + 1}'\n", "def f(x):\n    return f'{x:3}'\n",
            "def f(x):\n    y = range(x)\n    return y\n", "def f(x):\n    return x.items()\n",
            "def f(x):\n    y = set(x)\n    return y\n", "def f(x):\n    return 'a b'.split(sep=' ')\n",
            "def f(x):\n    for y in x:\n        x.append(y)\n", "def f(x):\n    for y in x:\n        x[y] = 1\n",
            "def f(x):\n    try:\n        return x\n    except TypeError:\n        return 0\n",
        ]:
            with self.subTest(text=text[:60]):
                self.assertNotEqual(faults(text, set(), {"errors": {"Leak"}}), [])

    def test_rings_are_found(self):
        one, other = ast.parse("from hushrow.b import x\n"), ast.parse("from hushrow.a import y\n")
        self.assertEqual(in_a_ring({"a": one, "b": other, "c": one}), ["a", "b"])

    def test_plain_text_has_none(self):
        text = '"""Plain."""\n\nXS = (1, 2)\n\n\ndef f(x):\n    return [y for y in XS if y != x]\n'
        self.assertEqual(faults(text, set(), {}), [])


if __name__ == "__main__":
    unittest.main()
