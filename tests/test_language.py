"""The rules of LANGUAGE.md that can be seen in a file by itself, asked of each file of the package."""

import ast
import builtins
import re
import unittest
from pathlib import Path

PACKAGE = Path(__file__).resolve().parent.parent / "fewchecks"

OWN_NAMES = set(
    "len range enumerate zip min max sum abs sorted reversed int str bool list tuple dict set frozenset isinstance"
    " ord repr any all divmod Exception ValueError TypeError KeyError IndexError LookupError ZeroDivisionError"
    " ArithmeticError OverflowError RuntimeError NotImplementedError AttributeError StopIteration".split())
METHODS = set(
    "append clear copy count endswith extend find get index insert isalnum isalpha isdigit islower isspace isupper"
    " items join keys ljust lower lstrip partition pop remove replace reverse rfind rjust rpartition rsplit rstrip"
    " setdefault split splitlines startswith strip update upper values zfill bit_length".split())
CHANGES = ("append", "clear", "extend", "insert", "pop", "remove", "reverse", "setdefault", "update")
DUNDERS = {"__init__", "__eq__", "__repr__", "__str__", "__len__"}
NEVER_NAMED = set(
    "register mro elements open input version_info with_traceback add_note attrgetter breakpoint builtins compile"
    " copyright credits delattr dir eval exec exit gc getattr globals hasattr help id importlib license locals"
    " methodcaller os quit setattr super type vars sys format format_map __name__".split())
NEVER_WRITTEN = re.compile(
    r"\b(type|typing|typing_extensions|enum|Enum|IntEnum|StrEnum|Flag|IntFlag|Generic|Protocol|ABC|ABCMeta"
    r"|namedtuple|NamedTuple|TypedDict|TYPE_CHECKING|abstractmethod)\b|dataclass|overload|contextmanager")
NODES = set(
    "Module ImportFrom alias FunctionDef arguments arg ClassDef Assign AugAssign If While For Return Break Continue"
    " Pass Raise Try ExceptHandler Expr Constant Name Attribute Subscript Slice Call List Tuple Dict ListComp"
    " comprehension IfExp BoolOp And Or UnaryOp Not USub UAdd Invert BinOp Add Sub Mult FloorDiv Mod Pow BitAnd"
    " BitOr BitXor LShift RShift Compare Eq NotEq Lt LtE Gt GtE Is IsNot In NotIn Lambda JoinedStr FormattedValue"
    " Load Store Set keyword".split())


def faults_of_text(text):
    found = []
    if NEVER_WRITTEN.search(text):
        found.append("L17")
    if re.search(r"[^ -~\n]", text):
        found.append("L14")
    rows = text.split("\n")
    if len(rows) > 400 or max(len(row) for row in rows) > 120:
        found.append("L10")
    return found


def names_bound(tree):
    for node in ast.walk(tree):
        if isinstance(node, (ast.FunctionDef, ast.ClassDef)):
            yield node.name
        elif isinstance(node, ast.arg):
            yield node.arg
        elif isinstance(node, ast.Name) and isinstance(node.ctx, ast.Store):
            yield node.id
        elif isinstance(node, ast.ExceptHandler) and node.name:
            yield node.name


def faults_of_names(tree):
    found = []
    methods = {id(sub) for node in ast.walk(tree) if isinstance(node, ast.ClassDef) for sub in node.body}
    for name in names_bound(tree):
        if not re.fullmatch(r"[A-Za-z][A-Za-z0-9_]*", name) and name not in DUNDERS:
            found.append("L12 " + name)
    for node in ast.walk(tree):
        name = getattr(node, "id", getattr(node, "attr", getattr(node, "arg", None)))
        if name in NEVER_NAMED:
            found.append("L17 " + name)
        if isinstance(node, ast.Name) and hasattr(builtins, node.id) and node.id not in OWN_NAMES:
            found.append("L8 " + node.id)
        bound = node.name if isinstance(node, ast.FunctionDef) and id(node) not in methods else None
        if isinstance(node, ast.Name) and isinstance(node.ctx, ast.Store):
            bound = node.id
        if isinstance(node, ast.arg):
            bound = node.arg
        if bound and hasattr(builtins, bound):
            found.append("L15 " + bound)
    return found


def faults_of_node(node):
    found = []
    if type(node).__name__ not in NODES:
        found.append("L6/L7 " + type(node).__name__)
    if isinstance(node, ast.Constant) and isinstance(node.value, (float, bytes, complex)):
        found.append("L7 constant")
    if isinstance(node, ast.Constant) and isinstance(node.value, str) and "%" in node.value:
        found.append("L27 sign")
    if isinstance(node, ast.Assign) and (len(node.targets) > 1 or isinstance(node.targets[0], (ast.Tuple, ast.List))):
        found.append("L6 targets")
    if isinstance(node, (ast.For, ast.While)) and node.orelse or isinstance(node, ast.Try) and node.finalbody:
        found.append("L6 else")
    if isinstance(node, ast.ListComp) and (len(node.generators) > 1 or len(node.generators[0].ifs) > 1):
        found.append("L7 comprehension")
    if isinstance(node, (ast.FunctionDef, ast.ClassDef)) and node.decorator_list:
        found.append("L4/L5 decorator")
    if isinstance(node, ast.FunctionDef) and node.end_lineno - node.lineno >= 40:
        found.append("L10 function")
    if isinstance(node, ast.arguments) and (node.vararg or node.kwarg or node.kwonlyargs or node.posonlyargs):
        found.append("L4 arguments")
    if isinstance(node, ast.Compare) and any(isinstance(op, (ast.Is, ast.IsNot)) for op in node.ops):
        sides = [node.left] + node.comparators
        if not any(isinstance(side, ast.Constant) and side.value in (None, True, False) for side in sides):
            found.append("L20")
    if isinstance(node, ast.BinOp) and isinstance(node.op, ast.Pow):
        if not (isinstance(node.right, ast.Constant) and 0 <= node.right.value <= 64):
            found.append("L27 power")
    return found


def faults_of_top(tree):
    found = []
    allowed = (ast.ImportFrom, ast.FunctionDef, ast.ClassDef, ast.Assign)
    for k, node in enumerate(tree.body):
        docstring = k == 0 and isinstance(node, ast.Expr) and isinstance(node.value, ast.Constant)
        if not docstring and not isinstance(node, allowed):
            found.append("L3")
        if isinstance(node, ast.ImportFrom):
            plain = node.level == 0 and node.module.startswith("fewchecks.")
            if not plain or any(part.name == "*" for part in node.names):
                found.append("L2/L16")
        if isinstance(node, ast.ClassDef):
            if len(node.bases) > 1 or node.keywords:
                found.append("L5 bases")
            if not all(isinstance(sub, (ast.FunctionDef, ast.Pass)) for sub in node.body):
                found.append("L5 body")
    return found


def names_at_top(tree):
    for node in tree.body:
        if isinstance(node, (ast.FunctionDef, ast.ClassDef)):
            yield node.name
        elif isinstance(node, ast.Assign):
            yield node.targets[0].id
        elif isinstance(node, ast.ImportFrom):
            for part in node.names:
                yield part.name


def faults_of_doubles(tree):
    top = list(names_at_top(tree))
    found = ["L15 twice " + name for name in top if top.count(name) > 1]
    kept = {node.name for node in tree.body if isinstance(node, ast.ClassDef)}
    kept |= {part.name for node in tree.body if isinstance(node, ast.ImportFrom) for part in node.names}
    for node in tree.body:
        if isinstance(node, (ast.FunctionDef, ast.ClassDef)):
            inner = [name for sub in node.body for name in names_bound(sub)]
            if isinstance(node, ast.FunctionDef):
                inner += [arg.arg for arg in node.args.args]
            found += ["L15 local " + name for name in inner if name in kept]
        if isinstance(node, ast.ClassDef):
            methods = methods_of(ast.Module([node], []))
            found += ["L18 twice " + name for name in methods if methods.count(name) > 1]
    return found


def called_name(node):
    if isinstance(node, ast.Call):
        return getattr(node.func, "id", getattr(node.func, "attr", None))
    return None


def is_walked_at_once(node, parent):
    if isinstance(parent, (ast.For, ast.comprehension)):
        return parent.iter is node
    name = called_name(parent)
    if name in ("list", "tuple", "dict", "sorted", "sum", "any", "all", "enumerate"):
        return parent.args[0] is node
    return name == "zip" or name in ("min", "max", "join") and len(parent.args) == 1


def faults_of_walks(tree):
    found = []
    parents = {id(sub): node for node in ast.walk(tree) for sub in ast.iter_child_nodes(node)}
    for node in ast.walk(tree):
        name = called_name(node)
        if name in ("zip", "enumerate", "reversed", "range", "items", "keys", "values"):
            if not is_walked_at_once(node, parents[id(node)]):
                found.append("L23 kept " + name)
        if isinstance(node, ast.For):
            found += ["L23 changed " + walked for walked in walked_by(node.iter) if walked in changed_in(node.body)]
    return found


def walked_by(node):
    if isinstance(node, ast.Call):
        under = [node.func.value] if isinstance(node.func, ast.Attribute) else []
        inner = node.args if called_name(node) in ("enumerate", "zip", "reversed") else under
        return [walked for sub in inner for walked in walked_by(sub)]
    return [ast.unparse(node)]


def changed_in(body):
    for node in [sub for statement in body for sub in ast.walk(statement)]:
        if isinstance(node, ast.Subscript) and isinstance(node.ctx, ast.Store):
            yield ast.unparse(node.value)
        if isinstance(node, ast.Call) and called_name(node) in CHANGES and isinstance(node.func, ast.Attribute):
            yield ast.unparse(node.func.value)


def faults_of(text, own_methods=()):
    tree = ast.parse(text)
    found = faults_of_text(text) + faults_of_top(tree) + faults_of_names(tree)
    found += faults_of_doubles(tree) + faults_of_walks(tree)
    for node in ast.walk(tree):
        found.extend(faults_of_node(node))
        if isinstance(node, ast.Call) and isinstance(node.func, ast.Attribute):
            if node.func.attr not in METHODS | DUNDERS | {"add", "discard"} | set(own_methods):
                found.append("L25 " + node.func.attr)
    return found


def read_files():
    return {path.stem: path.read_text(encoding="utf-8") for path in sorted(PACKAGE.glob("*.py"))}


def methods_of(tree):
    return [sub.name for node in tree.body if isinstance(node, ast.ClassDef)
            for sub in node.body if isinstance(sub, ast.FunctionDef)]


class LanguageTest(unittest.TestCase):
    def test_only_python_files_lie_in_the_package(self):
        for path in PACKAGE.iterdir():
            if path.name != "__pycache__":
                self.assertRegex(path.name, r"\A([a-z][a-z0-9_]*|__init__|__main__)\.py\Z")
        self.assertTrue((PACKAGE / "__init__.py").is_file())

    def test_each_file_keeps_to_the_rules(self):
        files = read_files()
        own = [name for text in files.values() for name in methods_of(ast.parse(text))]
        for name, text in files.items():
            with self.subTest(name):
                self.assertEqual(faults_of(text, own), [])

    def test_names_are_drawn_from_the_files_that_define_them_and_in_no_ring(self):
        trees = {name: ast.parse(text) for name, text in read_files().items()}
        draws = {}
        for name, tree in trees.items():
            draws[name] = []
            for node in tree.body:
                if isinstance(node, ast.ImportFrom):
                    source = node.module.split(".")[1]
                    defined = set(names_bound(trees[source]))
                    self.assertTrue(all(part.name in defined for part in node.names), (name, source))
                    draws[name].append(source)
        while draws:
            ready = [name for name, sources in draws.items() if not set(sources) & set(draws)]
            self.assertTrue(ready, draws)
            for name in ready:
                draws.pop(name)

    def test_no_name_is_a_method_and_a_value(self):
        trees = [ast.parse(text) for text in read_files().values()]
        methods = {name for tree in trees for name in methods_of(tree)}
        values = {node.attr for tree in trees for node in ast.walk(tree)
                  if isinstance(node, ast.Attribute) and isinstance(node.ctx, ast.Store)}
        self.assertEqual(methods & values, set())
        held = {name for kind in (str, int, list, tuple, dict, set, bytes) for name in dir(kind)}
        self.assertEqual((methods - DUNDERS - METHODS | values) & held, set())

    def test_faults_are_seen(self):
        for text in ("import sys\n", "from fewchecks import nets\n", "from .nets import formed\n", "print(1)\n",
                     "a = 1 / 2\n", "a = 0.5\n", "a = b = 1\n", "a = {x: 1 for x in (1, 2)}\n",
                     "def f(*a):\n    pass\n", "def f(x):\n    x, y = x\n", "def f(x):\n    return pow(x, 2)\n",
                     "def f(x):\n    return x.sort()\n", "def f(sum):\n    pass\n", "def f(x, y):\n    return x is y\n",
                     "def f(x):\n    return 2 ** x\n", "def f(x):\n    yield x\n", "def _f(x):\n    pass\n",
                     "# a type\n", "# a tab\t\n", "class A:\n    b = 1\n", "# " + "a" * 120 + "\n",
                     "def f(x):\n" + "    x = 1\n" * 40, "a = 1\na = 2\n",
                     "from fewchecks.nets import sums\ndef f(sums):\n    pass\n",
                     "class A:\n    pass\ndef f(x):\n    A = x\n",
                     "class A:\n    def f(self):\n        pass\n    def f(self):\n        pass\n",
                     "def f(x):\n    return g(range(x))\n", "def f(x):\n    return 1 in x.values()\n",
                     "def f(x):\n    for k, y in enumerate(x):\n        x[k] = y\n",
                     "def f(x):\n    for y in x:\n        x.append(y)\n",
                     "def f(x):\n    for y in x.items():\n        x[y] = y\n"):
            with self.subTest(text):
                self.assertNotEqual(faults_of(text), [])
        self.assertEqual(faults_of("def f(x):\n" + "    x = 1\n" * 39), [])


if __name__ == "__main__":
    unittest.main()
