"""The package keeps to LANGUAGE.md, as far as a walk over its syntax tree can see.

Rules that hang on meaning (L9, L19, L22, L23, L24, L28) are looked at only in part.
"""

import ast
import builtins
import pathlib
import re
import unittest

PACKAGE = pathlib.Path(__file__).resolve().parent.parent / "bothbooks"

PLAIN_NAME = re.compile(r"[A-Za-z][A-Za-z0-9_]*\Z")
FILE_NAME = re.compile(r"([a-z][a-z0-9_]*|__init__|__main__)\.py\Z")
SPECIAL_METHODS = {"__init__", "__eq__", "__repr__", "__str__", "__len__"}
ERRORS = set(
    "Exception ValueError TypeError KeyError IndexError LookupError ZeroDivisionError ArithmeticError OverflowError "
    "RuntimeError NotImplementedError AttributeError StopIteration".split()
)
# L8, less chr, which L27 takes out.
BUILTINS = ERRORS | set(
    "len range enumerate zip min max sum abs sorted reversed int str bool list tuple dict set frozenset isinstance "
    "ord repr any all divmod".split()
)
METHODS = set(
    "append clear copy count endswith extend find get index insert isalnum isalpha isdigit islower isspace isupper "
    "items join keys ljust lower lstrip partition pop remove replace reverse rfind rjust rpartition rsplit rstrip "
    "setdefault split splitlines startswith strip update upper values zfill bit_length".split()
)
NOWHERE = set("register mro elements open input version_info with_traceback add_note format format_map".split())
NOT_NAMES = set(
    "attrgetter breakpoint builtins compile copyright credits delattr dir eval exec exit gc getattr globals hasattr "
    "help id importlib license locals methodcaller os quit setattr super vars sys".split()
)
BANNED_WORDS = re.compile(
    r"\b(type|typing|typing_extensions|enum|Enum|IntEnum|StrEnum|Flag|IntFlag|Generic|Protocol|ABC|ABCMeta|"
    r"namedtuple|NamedTuple|TypedDict|TYPE_CHECKING|abstractmethod)\b|dataclass|overload|contextmanager"
)
BANNED_FILES = set("test tests testing site conftest sitecustomize usercustomize".split()) | set(dir(builtins))
# L22: the keywords of Python's own names.
KEYWORDS = {
    "sorted": {"key", "reverse"}, "min": {"key", "default"}, "max": {"key", "default"}, "sum": {"start"},
    "enumerate": {"start"}, "zip": {"strict"},
}
# L23: what is walked on the spot, and where it may stand besides loops.
WALKED = {"zip", "enumerate", "reversed", "range"}
WALKED_METHODS = {"items", "keys", "values"}
WALKERS = set("list tuple dict sorted sum any all enumerate zip min max".split())
# L15: what may be done to a list or dict of a file's top, by name.
READERS = set("len list dict tuple sorted min max sum any all enumerate zip reversed set frozenset".split())
READING_METHODS = {"get", "items", "keys", "values", "index", "count", "copy"}
# L26: names that Python's own values have, less those that stay free.
OWN_NAMES = set().union(*[dir(kind) for kind in (str, int, list, dict, set, bytes)])
FREE_METHODS = METHODS | {"add", "discard"} | SPECIAL_METHODS
FREE_VALUES = set("count index title find get join lower upper split strip copy add".split())
NO_VALUES = {"args"}
NODES = (
    ast.Module, ast.ImportFrom, ast.alias, ast.FunctionDef, ast.arguments, ast.arg, ast.ClassDef, ast.Assign,
    ast.AugAssign, ast.If, ast.While, ast.For, ast.Return, ast.Break, ast.Continue, ast.Pass, ast.Raise, ast.Try,
    ast.ExceptHandler, ast.Expr, ast.Constant, ast.List, ast.Tuple, ast.Dict, ast.Set, ast.BinOp, ast.UnaryOp,
    ast.BoolOp, ast.Compare, ast.IfExp, ast.Call, ast.keyword, ast.Attribute, ast.Subscript, ast.Slice, ast.ListComp,
    ast.comprehension, ast.JoinedStr, ast.FormattedValue, ast.Lambda, ast.Name, ast.expr_context, ast.operator,
    ast.unaryop, ast.boolop, ast.cmpop,
)


def is_docstring(node):
    return isinstance(node, ast.Expr) and isinstance(node.value, ast.Constant) and isinstance(node.value.value, str)


def is_plain_value(node):
    """A written number, text, truth or None, or a list, tuple or dict of these and of names."""
    if isinstance(node, ast.UnaryOp) and isinstance(node.op, ast.USub):
        return isinstance(node.operand, ast.Constant)
    if isinstance(node, (ast.List, ast.Tuple)):
        return all(is_plain_value(part) for part in node.elts)
    if isinstance(node, ast.Dict):
        return all(is_plain_value(part) for part in node.keys + node.values)
    return isinstance(node, (ast.Constant, ast.Name))


def text_faults(text):
    for row, line in enumerate(text.split("\n"), 1):
        if len(line) > 120:
            yield "L10", row
        if not all(" " <= sign <= "~" for sign in line):
            yield "L14", row
        if BANNED_WORDS.search(line):
            yield "L17", row
    if text.count("\n") > 400:
        yield "L10", 401


def top_faults(tree):
    bound = []
    for place, node in enumerate(tree.body):
        if isinstance(node, ast.ImportFrom):
            bound.extend(alias.asname or alias.name for alias in node.names)
        elif isinstance(node, (ast.FunctionDef, ast.ClassDef)):
            bound.append(node.name)
        elif isinstance(node, ast.Assign):
            bound.extend(target.id for target in node.targets if isinstance(target, ast.Name))
            if not is_plain_value(node.value) or isinstance(node.value, ast.Name):
                yield "L3", node.lineno
            if not isinstance(node.targets[0], ast.Name):
                yield "L3", node.lineno
        elif not (place == 0 and is_docstring(node)):
            yield "L3", node.lineno
        if bound and bound[-1] in bound[:-1]:
            yield "L15", node.lineno


def import_faults(node, modules):
    """modules: for each file's full name, the names bound at its top by itself."""
    if node.col_offset or node.level or node.module not in modules:
        yield "L2", node.lineno
        return
    for alias in node.names:
        if alias.name not in modules[node.module]:
            yield "L16", node.lineno


def def_faults(node):
    args = node.args
    if args.vararg or args.kwarg or args.kwonlyargs or args.posonlyargs:
        yield "L4", node.lineno
    if not all(is_plain_value(value) for value in args.defaults):
        yield "L4", node.lineno
    for arg in args.args:
        if arg.annotation:
            yield "L21", node.lineno
        if arg.arg in dir(builtins):
            yield "L15", node.lineno
    if isinstance(node, ast.FunctionDef):
        if node.decorator_list:
            yield "L4", node.lineno
        if node.end_lineno - node.lineno + 1 > 40:
            yield "L10", node.lineno


def class_faults(node, own_classes):
    if node.decorator_list or node.keywords or len(node.bases) > 1 or node.col_offset:
        yield "L5", node.lineno
    for base in node.bases:
        if not isinstance(base, ast.Name) or base.id not in own_classes | ERRORS:
            yield "L5", node.lineno
        elif base.id in ("StopIteration", "AttributeError"):
            yield "L18", node.lineno
    names = [part.name for part in node.body if isinstance(part, ast.FunctionDef)]
    if len(names) != len(set(names)):
        yield "L18", node.lineno
    for place, part in enumerate(node.body):
        if not isinstance(part, (ast.FunctionDef, ast.Pass)) and not (place == 0 and is_docstring(part)):
            yield "L5", part.lineno


def name_faults(name, line, is_method=False):
    special = is_method and name in SPECIAL_METHODS
    if not special and not PLAIN_NAME.match(name):
        yield "L12", line
    if name in NOWHERE:
        yield "L17", line


def constant_faults(node):
    if isinstance(node.value, (float, complex, bytes)) or node.value is Ellipsis:
        yield "L7", node.lineno
    if isinstance(node.value, str) and "%" in node.value:
        yield "L27", node.lineno


def expression_faults(node, own_methods):
    if isinstance(node, ast.Constant):
        yield from constant_faults(node)
    elif isinstance(node, ast.BinOp):
        if isinstance(node.op, (ast.Div, ast.MatMult)):
            yield "L7", node.lineno
        if isinstance(node.op, ast.Pow) and not (
            isinstance(node.right, ast.Constant) and node.right.value in range(65)
        ):
            yield "L27", node.lineno
    elif isinstance(node, ast.Compare) and any(isinstance(op, (ast.Is, ast.IsNot)) for op in node.ops):
        sides = [node.left] + node.comparators
        if not any(isinstance(side, ast.Constant) and side.value in (None, True, False) for side in sides):
            yield "L20", node.lineno
    elif isinstance(node, ast.ListComp):
        if len(node.generators) != 1 or len(node.generators[0].ifs) > 1:
            yield "L7", node.lineno
    elif isinstance(node, ast.FormattedValue):
        if not isinstance(node.value, ast.Name) or node.format_spec or node.conversion not in (-1, ord("r")):
            yield "L7", node.lineno
    elif isinstance(node, ast.Call) and isinstance(node.func, ast.Attribute):
        method = node.func.attr
        if method not in METHODS | own_methods and method != "__init__":
            yield "L25", node.lineno


def statement_faults(node):
    if isinstance(node, ast.Expr) and not isinstance(node.value, ast.Call) and not is_docstring(node):
        yield "L6", node.lineno
    if isinstance(node, ast.Assign) and len(node.targets) != 1:
        yield "L6", node.lineno
    if isinstance(node, (ast.For, ast.While)) and node.orelse:
        yield "L6", node.lineno
    if isinstance(node, ast.Try) and node.finalbody:
        yield "L6", node.lineno
    if isinstance(node, ast.ExceptHandler):
        if node.type is None or (isinstance(node.type, ast.Name) and node.type.id in ("Exception", "TypeError")):
            yield "L19", node.lineno


def use_faults(node):
    """Names and attributes as they are read and bound."""
    if isinstance(node, ast.Name):
        yield from name_faults(node.id, node.lineno)
        if node.id in NOT_NAMES:
            yield "L17", node.lineno
        elif node.id in dir(builtins):
            if isinstance(node.ctx, ast.Store):
                yield "L15", node.lineno
            elif node.id not in BUILTINS:
                yield "L8", node.lineno
    elif isinstance(node, ast.Attribute):
        yield from name_faults(node.attr, node.lineno, is_method=True)
    elif isinstance(node, ast.arg):
        yield from name_faults(node.arg, node.lineno)
    elif isinstance(node, (ast.FunctionDef, ast.ClassDef)):
        yield from name_faults(node.name, node.lineno, is_method=True)


def parents_of(tree):
    return {child: node for node in ast.walk(tree) for child in ast.iter_child_nodes(node)}


def called_name(node):
    return node.func.id if isinstance(node, ast.Call) and isinstance(node.func, ast.Name) else None


def is_walked_here(node, parents):
    parent = parents[node]
    if isinstance(parent, (ast.For, ast.comprehension)):
        return parent.iter is node
    if called_name(parent) in WALKERS:
        return parent.args[0] is node
    return isinstance(parent, ast.Call) and isinstance(parent.func, ast.Attribute) and parent.func.attr == "join"


def walk_faults(node, parents):
    if not isinstance(node, ast.Call):
        return
    method = node.func.attr if isinstance(node.func, ast.Attribute) else None
    if (called_name(node) in WALKED or method in WALKED_METHODS) and not is_walked_here(node, parents):
        yield "L23", node.lineno


def set_faults(node, parents):
    if called_name(node) not in ("set", "frozenset") and not isinstance(node, ast.Set):
        return
    parent = parents[node]
    while isinstance(parent, ast.BinOp):
        parent = parents[parent]
    in_call = called_name(parent) in ("sorted", "len") and not parent.keywords
    if not in_call and not isinstance(parent, ast.Compare):
        yield "L24", node.lineno


def keyword_faults(node):
    """Keywords at Python's own names; those at the program's own are free."""
    name = called_name(node)
    if name in BUILTINS:
        for keyword in node.keywords:
            if keyword.arg not in KEYWORDS.get(name, ()):
                yield "L22", node.lineno


def own_name_faults(node):
    if isinstance(node, ast.ClassDef):
        for part in node.body:
            if isinstance(part, ast.FunctionDef) and part.name in OWN_NAMES - FREE_METHODS:
                yield "L26", part.lineno
    elif isinstance(node, ast.Attribute) and isinstance(node.ctx, ast.Store):
        if node.attr in (OWN_NAMES - FREE_VALUES) | NO_VALUES:
            yield "L26", node.lineno


def local_faults(tree):
    """Parameters and locals that are called like an import or a class of their file."""
    taken = {alias.asname or alias.name for node in tree.body if isinstance(node, ast.ImportFrom) for alias in node.names}
    taken |= {node.name for node in tree.body if isinstance(node, ast.ClassDef)}
    for node in ast.walk(tree):
        if isinstance(node, ast.arg) and node.arg in taken:
            yield "L15", node.lineno
        if isinstance(node, ast.Name) and isinstance(node.ctx, ast.Store) and node.id in taken:
            yield "L15", node.lineno
        if isinstance(node, ast.ExceptHandler) and node.name in taken:
            yield "L15", node.lineno


def is_only_read(node, parents):
    parent = parents[node]
    if isinstance(parent, ast.Subscript):
        return parent.value is node and isinstance(parent.ctx, ast.Load)
    if isinstance(parent, ast.Attribute):
        return parent.attr in READING_METHODS
    if isinstance(parent, (ast.For, ast.comprehension)):
        return parent.iter is node
    return isinstance(parent, ast.Compare) or called_name(parent) in READERS


def kept_faults(tree, parents):
    """Lists and dicts of a file's top are only read."""
    kept = {
        node.targets[0].id for node in tree.body
        if isinstance(node, ast.Assign) and isinstance(node.value, (ast.List, ast.Dict))
    }
    for node in ast.walk(tree):
        if isinstance(node, ast.Name) and isinstance(node.ctx, ast.Load) and node.id in kept:
            if not is_only_read(node, parents):
                yield "L15", node.lineno


def returning_faults(node):
    if isinstance(node, ast.FunctionDef) and node.name == "__init__":
        for part in ast.walk(node):
            if isinstance(part, ast.Return) and part.value is not None:
                yield "L28", part.lineno


def names_of_top(tree):
    names = set()
    for node in tree.body:
        if isinstance(node, (ast.FunctionDef, ast.ClassDef)):
            names.add(node.name)
        elif isinstance(node, ast.Assign):
            names.update(target.id for target in node.targets if isinstance(target, ast.Name))
    return names


def methods_and_values(trees):
    methods, values = set(), set()
    for tree in trees:
        for node in ast.walk(tree):
            if isinstance(node, ast.ClassDef):
                methods.update(part.name for part in node.body if isinstance(part, ast.FunctionDef))
            elif isinstance(node, ast.Attribute) and isinstance(node.ctx, ast.Store):
                values.add(node.attr)
    return methods, values


def drawn_from(tree):
    return [node.module for node in tree.body if isinstance(node, ast.ImportFrom)]


def has_ring(trees):
    """Whether two files draw from one another, in whatever many steps."""
    left = {name: set(drawn_from(tree)) & set(trees) for name, tree in trees.items()}
    while left:
        free = [name for name, drawn in left.items() if not drawn & set(left)]
        if not free:
            return True
        for name in free:
            left.pop(name)
    return False


def file_faults(text, tree, modules, classes, methods):
    parents = parents_of(tree)
    yield from text_faults(text)
    yield from top_faults(tree)
    yield from local_faults(tree)
    yield from kept_faults(tree, parents)
    for node in ast.walk(tree):
        if not isinstance(node, NODES):
            yield "L6", getattr(node, "lineno", 0)
        if isinstance(node, ast.ImportFrom):
            yield from import_faults(node, modules)
        if isinstance(node, (ast.FunctionDef, ast.Lambda)):
            yield from def_faults(node)
        if isinstance(node, ast.ClassDef):
            yield from class_faults(node, classes)
        yield from statement_faults(node)
        yield from expression_faults(node, methods)
        yield from use_faults(node)
        yield from walk_faults(node, parents)
        yield from set_faults(node, parents)
        yield from keyword_faults(node)
        yield from own_name_faults(node)
        yield from returning_faults(node)


def package_faults(texts):
    """texts: for each file's name, without its ending, its text. Told: tuples (name, rule, line)."""
    trees = {"bothbooks." + name: ast.parse(text) for name, text in texts.items()}
    modules = {name: names_of_top(tree) for name, tree in trees.items()}
    classes = {
        node.name for tree in trees.values() for node in ast.walk(tree) if isinstance(node, ast.ClassDef)
    }
    methods, values = methods_and_values(trees.values())
    faults = [("", "L18", 0) for name in sorted(methods & values)]
    if has_ring(trees):
        faults.append(("", "L16", 0))
    for name, text in texts.items():
        tree = trees["bothbooks." + name]
        faults.extend((name, rule, line) for rule, line in file_faults(text, tree, modules, classes, methods))
    return faults


class TestPackage(unittest.TestCase):
    def test_files(self):
        names = [path.name for path in PACKAGE.iterdir() if path.name != "__pycache__"]
        self.assertIn("__init__.py", names)
        for name in names:
            self.assertRegex(name, FILE_NAME)
            self.assertNotIn(name[:-3], BANNED_FILES)
            self.assertFalse(name.startswith("test_"))

    def test_no_file_breaks_a_rule(self):
        texts = {path.stem: path.read_text(encoding="utf-8") for path in sorted(PACKAGE.glob("*.py"))}
        self.assertEqual(package_faults(texts), [])

    def test_init_binds_nothing(self):
        tree = ast.parse((PACKAGE / "__init__.py").read_text(encoding="utf-8"))
        self.assertTrue(all(is_docstring(node) for node in tree.body))


class TestTheCheck(unittest.TestCase):
    """The check above is of use only where it finds what breaks a rule."""

    BROKEN = [
        ("L3", "import sys\n"),
        ("L2", "from bothbooks.absent import x\n"),
        ("L3", "A = len('a')\n"),
        ("L4", "def f(*args):\n    return args\n"),
        ("L5", "class C:\n    a = 1\n"),
        ("L6", "def f():\n    with g() as h:\n        pass\n"),
        ("L6", "def f():\n    a = b = 1\n    return a + b\n"),
        ("L7", "def f(a):\n    return a / 2\n"),
        ("L7", "def f():\n    return 1.5\n"),
        ("L8", "def f(a):\n    return print(a)\n"),
        ("L10", "def f():\n" + "    g()\n" * 40),
        ("L10", "A = '" + "a" * 120 + "'\n"),
        ("L12", "def _f():\n    return 1\n"),
        ("L14", "# \u00e4\n"),
        ("L15", "A = 1\nA = 2\n"),
        ("L15", "def f(list):\n    return 1\n"),
        ("L16", "from bothbooks.broken import f\n"),
        ("L17", "# the type of it\n"),
        ("L17", "def f(a):\n    return a.format(1)\n"),
        ("L18", "class C:\n    def a(self):\n        self.a = 1\n"),
        ("L19", "def f(a):\n    try:\n        return a()\n    except Exception:\n        return 1\n"),
        ("L20", "def f(a, b):\n    return a is b\n"),
        ("L21", "def f(a: int):\n    return a\n"),
        ("L15", "class C:\n    pass\n\n\ndef f():\n    C = 1\n    return C\n"),
        ("L15", "A = [1]\n\n\ndef f():\n    A.append(2)\n"),
        ("L15", "A = [1]\n\n\ndef f():\n    return A\n"),
        ("L15", "A = {1: 1}\n\n\ndef f():\n    A[1] = 2\n"),
        ("L22", "def f(a):\n    return int(a, base=3)\n"),
        ("L23", "def f(a):\n    b = range(a)\n    return list(b)\n"),
        ("L23", "def f(a):\n    return a.items()\n"),
        ("L24", "def f(a):\n    b = set(a)\n    return len(b)\n"),
        ("L24", "def f(a):\n    return [b for b in set(a)]\n"),
        ("L25", "def f(a):\n    return a.title()\n"),
        ("L26", "class C:\n    def title(self):\n        return 1\n"),
        ("L26", "class C:\n    def __init__(self):\n        self.items = 1\n"),
        ("L27", "def f(n):\n    return 2 ** n\n"),
        ("L27", "def f(n):\n    return '%'\n"),
        ("L28", "class C:\n    def __init__(self):\n        return None\n"),
    ]

    def test_each_broken_text_is_found(self):
        for rule, text in self.BROKEN:
            with self.subTest(rule=rule, text=text):
                self.assertIn(rule, [fault[1] for fault in package_faults({"broken": text})])

    def test_a_plain_text_has_no_fault(self):
        text = '"""Plain."""\n\nA = 1\n\n\ndef f(a):\n    return [b + A for b in sorted(a)]\n'
        self.assertEqual(package_faults({"plain": text}), [])
        text = (
            "A = {1: 2}\n\n\ndef f(a, b):\n    for k, v in A.items():\n        b.append(v)\n"
            "    return sorted(set(a) - set(b)) + [A[k] for k in range(A.get(1))] + list(A) + sorted(a, reverse=True)\n"
        )
        self.assertEqual(package_faults({"plain": text}), [])


if __name__ == "__main__":
    unittest.main()
