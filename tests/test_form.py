"""Holds the package's files against those rules of their form that can be seen in one file by itself."""

import ast
import builtins
import pathlib
import re
import unittest

PACKAGE = pathlib.Path(__file__).resolve().parent.parent / "trellisway"

OWN_NAMES = set(
    "len range enumerate zip min max sum abs sorted reversed int str bool list tuple dict set frozenset isinstance"
    " ord repr any all divmod Exception ValueError TypeError KeyError IndexError LookupError ZeroDivisionError"
    " ArithmeticError OverflowError RuntimeError NotImplementedError AttributeError StopIteration".split()
)
OWN_METHODS = {"told", "cost"}
PYTHONS_METHODS = set(
    "append clear copy count endswith extend find get index insert isalnum isalpha isdigit islower isspace isupper"
    " items join keys ljust lower lstrip partition pop remove replace reverse rfind rjust rpartition rsplit rstrip"
    " setdefault split splitlines startswith strip update upper values zfill bit_length".split()
)
WALKED = set("zip enumerate reversed range".split())
WALKERS = set("list tuple dict sorted sum any all enumerate zip".split())
KEYWORDS = {"sorted": {"key", "reverse"}, "min": {"key", "default"}, "max": {"key", "default"}, "sum": {"start"},
            "enumerate": {"start"}, "zip": {"strict"}}
DUNDERS = {"__init__", "__eq__", "__repr__", "__str__", "__len__"}
UNUSED = set("register mro elements open input version_info with_traceback add_note format format_map".split())
WORDS = re.compile(
    r"\b(type|typing|typing_extensions|enum|Enum|IntEnum|StrEnum|Flag|IntFlag|Generic|Protocol|ABC|ABCMeta"
    r"|namedtuple|NamedTuple|TypedDict|TYPE_CHECKING|abstractmethod)\b|dataclass|overload|contextmanager"
)
NODES = set(
    "Module FunctionDef ClassDef arguments arg Lambda ImportFrom alias Assign AugAssign AnnAssign If While For Return"
    " Break Continue Pass Raise Try ExceptHandler Expr Call Constant Name Load Store Attribute Subscript Slice List"
    " Tuple Dict Set ListComp comprehension BinOp UnaryOp BoolOp Compare IfExp JoinedStr FormattedValue keyword"
    " Add Sub Mult FloorDiv Mod Pow BitAnd BitOr BitXor LShift RShift Invert UAdd USub Not And Or"
    " Eq NotEq Lt LtE Gt GtE Is IsNot In NotIn".split()
)


def sign_faults(text):
    for number, row in enumerate(text.split("\n"), 1):
        if not all(" " <= sign <= "~" for sign in row):
            yield f"L14 a sign beyond ASCII in row {number}"
        if len(row) > 120:
            yield f"L10 row {number} is too long"
        if WORDS.search(row):
            yield f"L17 a word that is not used in row {number}"
    if len(text.splitlines()) > 400:
        yield "L10 the file is too long"


def name_faults(name):
    if not re.fullmatch(r"[A-Za-z][A-Za-z0-9_]*", name) and name not in DUNDERS:
        yield f"L12 {name}"
    if name in UNUSED:
        yield f"L17 {name}"


def bound_faults(name):
    yield from name_faults(name)
    if hasattr(builtins, name):
        yield f"L15 {name} has a meaning of Python's own"


def function_faults(node):
    spec = node.args
    if spec.vararg or spec.kwarg or spec.kwonlyargs or spec.posonlyargs:
        yield "L4 no plain parameters"
    if node.decorator_list:
        yield "L4 a decorator"
    if node.end_lineno - node.lineno + 1 > 40:
        yield f"L10 {node.name} is too long"
    yield from name_faults(node.name)


def class_faults(node):
    if node.decorator_list or node.keywords or len(node.bases) > 1:
        yield f"L5 {node.name}"
    if not all(isinstance(part, (ast.FunctionDef, ast.Pass)) for part in node.body):
        yield f"L5 {node.name} has more than methods"
    methods = [part.name for part in node.body if isinstance(part, ast.FunctionDef)]
    if len(methods) != len(set(methods)):
        yield f"L18 a method of {node.name} stands twice"


def handler_faults(node):
    if node.type is None or ast.unparse(node.type) in ("Exception", "TypeError", "BaseException"):
        yield "L19 takes too much"


def constant_faults(node):
    if node.value is not None and not isinstance(node.value, (bool, int, str)):
        yield f"L7 {node.value!r}"
    if isinstance(node.value, str) and "%" in node.value:
        yield "L27 a sign within a text"


def compare_faults(node):
    for operator, right in zip(node.ops, node.comparators):
        plain = isinstance(right, ast.Constant) and (right.value is None or isinstance(right.value, bool))
        if isinstance(operator, (ast.Is, ast.IsNot)) and not plain:
            yield "L20 is"


def power_faults(node):
    if isinstance(node.op, ast.Pow) and not isinstance(node.right, ast.Constant):
        yield "L27 a power that is not written"


def call_faults(node):
    if isinstance(node.func, ast.Attribute) and node.func.attr not in PYTHONS_METHODS | OWN_METHODS:
        yield f"L25 {node.func.attr}"
    name = node.func.id if isinstance(node.func, ast.Name) else ""
    allowed = KEYWORDS.get(name, set())
    if name in OWN_NAMES and not all(keyword.arg in allowed for keyword in node.keywords):
        yield f"L22 a keyword at {name}"


def is_walked(node):
    return isinstance(node, ast.Call) and isinstance(node.func, ast.Name) and node.func.id in WALKED


def places_to_walk(node):
    if isinstance(node, (ast.For, ast.comprehension)):
        yield node.iter
    if isinstance(node, ast.Call) and isinstance(node.func, ast.Name) and node.args:
        if node.func.id in WALKERS or (node.func.id in ("min", "max") and len(node.args) == 1):
            yield node.args[0]


def walk_faults(tree):
    walked_on_the_spot = {id(place) for node in ast.walk(tree) for place in places_to_walk(node)}
    for node in ast.walk(tree):
        if is_walked(node) and id(node) not in walked_on_the_spot:
            yield f"L23 {node.func.id} is kept, row {node.lineno}"


def taken_names(tree):
    for node in tree.body:
        if isinstance(node, ast.ClassDef):
            yield node.name
        elif isinstance(node, ast.ImportFrom):
            yield from (part.asname or part.name for part in node.names)


def local_faults(tree):
    taken = set(taken_names(tree))
    for node in ast.walk(tree):
        name = node.arg if isinstance(node, ast.arg) else None
        if isinstance(node, ast.Name) and isinstance(node.ctx, ast.Store):
            name = node.id
        if name in taken:
            yield f"L15 {name} is a class or an import of the file, row {node.lineno}"


def docstring(tree):
    first = tree.body[0] if tree.body else None
    return first if isinstance(first, ast.Expr) and isinstance(first.value, ast.Constant) else None


def tree_faults(tree):
    yield from walk_faults(tree)
    yield from local_faults(tree)
    for node in ast.walk(tree):
        if isinstance(node, ast.Expr) and not isinstance(node.value, ast.Call) and node is not docstring(tree):
            yield f"L6 a value by itself, row {node.lineno}"


def node_faults(node):
    if type(node).__name__ not in NODES:
        yield f"L6 or L7 {type(node).__name__}"
    if isinstance(node, ast.FunctionDef):
        yield from function_faults(node)
    elif isinstance(node, ast.ClassDef):
        yield from class_faults(node)
    elif isinstance(node, ast.arg):
        yield from bound_faults(node.arg)
    elif isinstance(node, ast.Attribute):
        yield from name_faults(node.attr)
    elif isinstance(node, ast.Name) and isinstance(node.ctx, ast.Store):
        yield from bound_faults(node.id)
    elif isinstance(node, ast.Name) and hasattr(builtins, node.id) and node.id not in OWN_NAMES:
        yield f"L8 {node.id}"
    elif isinstance(node, ast.ImportFrom) and (node.level or not (node.module or "").startswith("trellisway.")):
        yield f"L2 {node.module}"
    elif isinstance(node, ast.Call):
        yield from call_faults(node)
    elif isinstance(node, ast.ExceptHandler):
        yield from handler_faults(node)
    elif isinstance(node, ast.Constant):
        yield from constant_faults(node)
    elif isinstance(node, ast.Compare):
        yield from compare_faults(node)
    elif isinstance(node, ast.BinOp):
        yield from power_faults(node)
    elif isinstance(node, ast.Assign) and len(node.targets) > 1:
        yield "L6 more than one target"
    elif isinstance(node, (ast.For, ast.While)) and node.orelse:
        yield "L6 else behind a loop"
    elif isinstance(node, ast.Try) and node.finalbody:
        yield "L6 finally"
    elif isinstance(node, ast.ListComp) and (len(node.generators) > 1 or len(node.generators[0].ifs) > 1):
        yield "L7 a comprehension of more than one for and if"


def faults(text):
    tree = ast.parse(text)
    found = list(sign_faults(text)) + list(tree_faults(tree))
    for node in ast.walk(tree):
        found += [f"{fault}, row {getattr(node, 'lineno', 0)}" for fault in node_faults(node)]
    return found


def defined_names(tree):
    for node in tree.body:
        if isinstance(node, (ast.FunctionDef, ast.ClassDef)):
            yield node.name
        elif isinstance(node, ast.Assign):
            yield from (target.id for target in node.targets if isinstance(target, ast.Name))


def import_faults(texts):
    """Of texts by the names of their files: names that the file drawn from doesn't define, files drawn in a ring."""
    trees = {name: ast.parse(text) for name, text in texts.items()}
    drawn = {name: set() for name in texts}
    for name, tree in trees.items():
        for node in [part for part in tree.body if isinstance(part, ast.ImportFrom)]:
            source = node.module.rpartition(".")[2]
            drawn[name].add(source)
            defined = set(defined_names(trees[source])) if source in trees else set()
            strange = [part.name for part in node.names if part.name not in defined]
            yield from (f"L16 {name} draws {one} from {source}" for one in strange)
    left = set(drawn)
    while any(not drawn[name] & left for name in left):
        left = {name for name in left if drawn[name] & left}
    yield from (f"L16 {name} is drawn from in a ring" for name in sorted(left))


class Form(unittest.TestCase):
    def test_imports(self):
        texts = {path.stem: path.read_text(encoding="utf-8") for path in PACKAGE.glob("*.py")}
        self.assertEqual(list(import_faults(texts)), [])

    def test_faults_of_imports_are_seen(self):
        one = "from trellisway.two import x\n\n\ndef y():\n    pass"
        self.assertEqual(list(import_faults({"one": one, "two": "x = 1"})), [])
        for two in ("from trellisway.three import x", "from trellisway.one import y\nx = 1", "z = 1"):
            self.assertNotEqual(list(import_faults({"one": one, "two": two, "three": "x = 1"})), [])

    def test_files_of_the_package(self):
        files = [path for path in PACKAGE.iterdir() if path.name != "__pycache__"]
        self.assertIn("__init__.py", [path.name for path in files])
        for path in files:
            self.assertRegex(path.name, r"\A(__init__|__main__|[a-z][a-z0-9_]*)\.py\Z")

    def test_each_file(self):
        for path in sorted(PACKAGE.glob("*.py")):
            with self.subTest(file=path.name):
                self.assertEqual(faults(path.read_text(encoding="utf-8")), [])

    def test_faults_are_seen(self):
        spoiled = (
            "import os", "from .signs import Gap", "from math import gcd", "xs = {x for x in ys}", "a = b = 1",
            "x = 1.5", "x = 1 / 2", "x = 2 ** n", "x = y is z", "def f(*xs):\n    pass", "x = 'a % b'",
            "def f(list):\n    pass", "x = type(y)", "def run():\n" + "    pass\n" * 40, "x = '\u00e9'",
            "try:\n    f()\nexcept Exception:\n    pass", "class A:\n    x = 1", "_x = 1", "x = getattr(y, 'z')",
            "with f() as x:\n    pass", "x = [y for y in z for z in w]", "# an enum", "x = y.format(z)",
            "def f():\n    xs = range(3)\n    return xs", "def f(xs):\n    return [x for x in reversed(range(3))]",
            "def f(xs):\n    return list(zip(xs, range(3)))", "def f(xs):\n    xs.sort()",
            "def f(xs):\n    return list(xs, key=1)", "def f():\n    'what it does'\n    return 1",
            "from trellisway.signs import Gap\n\n\ndef f(Gap):\n    pass",
            "from trellisway.schemes import rooms\n\n\ndef f(xs):\n    return [rooms for rooms in xs]",
        )
        for text in spoiled:
            with self.subTest(text=text):
                self.assertNotEqual(faults(text), [])


if __name__ == "__main__":
    unittest.main()
