"""The package keeps to the part of Python that LANGUAGE.md allows.

Only a part of the rules is checked, some of them in part: L1 to L8, L10, L12, L14 to L28.
The others (L9, L11, L13) are to be read for by eye.
"""

import ast
import io
import pathlib
import re
import tokenize
import unittest

PACKAGE = pathlib.Path(__file__).resolve().parent.parent / "bridgefind"

BUILTINS = set("""len range enumerate zip min max sum abs sorted reversed int str bool list tuple dict set
frozenset isinstance ord repr any all divmod Exception ValueError TypeError KeyError IndexError LookupError
ZeroDivisionError ArithmeticError OverflowError RuntimeError NotImplementedError AttributeError
StopIteration""".split())
METHODS = set("""append clear copy count endswith extend find get index insert isalnum isalpha isdigit
islower isspace isupper items join keys ljust lower lstrip partition pop remove replace reverse rfind rjust
rpartition rsplit rstrip setdefault split splitlines startswith strip update upper values zfill
bit_length""".split())
DUNDER_METHODS = {"__init__", "__eq__", "__repr__", "__str__", "__len__"}
STATEMENTS = (ast.Assign, ast.AugAssign, ast.If, ast.While, ast.For, ast.Return, ast.Break, ast.Continue,
              ast.Pass, ast.Raise, ast.Try, ast.Expr, ast.FunctionDef)
EXPRESSIONS = (ast.Constant, ast.List, ast.Tuple, ast.Dict, ast.Set, ast.BinOp, ast.UnaryOp, ast.BoolOp,
               ast.Compare, ast.IfExp, ast.Call, ast.Attribute, ast.Subscript, ast.Slice, ast.ListComp,
               ast.JoinedStr, ast.FormattedValue, ast.Name, ast.Lambda)
BANNED_NAMES = set("""register mro elements open input version_info with_traceback add_note attrgetter
breakpoint builtins compile copyright credits delattr dir eval exec exit gc getattr globals hasattr help id
importlib license locals methodcaller os quit setattr super vars sys format format_map chr""".split())
BANNED_WORDS = set("""type typing typing_extensions enum Enum IntEnum StrEnum Flag IntFlag Generic Protocol
ABC ABCMeta namedtuple NamedTuple TypedDict TYPE_CHECKING abstractmethod""".split())
BANNED_WITHIN = ("dataclass", "overload", "contextmanager")
WALKED = {"zip", "enumerate", "reversed", "range"}
WALKED_METHODS = {"items", "keys", "values"}
WALKERS = {"list", "tuple", "dict", "sorted", "sum", "any", "all", "enumerate", "zip", "min", "max"}
KEYWORDS = {"sorted": {"key", "reverse"}, "min": {"key", "default"}, "max": {"key", "default"}, "sum": {"start"},
            "enumerate": {"start"}, "zip": {"strict"}}
NO_VALUES = set("""items keys values pop update append clear extend insert remove reverse setdefault sort args encode
format""".split())
MAY_BE_VALUES = set("count index title find get join lower upper split strip copy add".split())
OF_PYTHONS_VALUES = {name for kind in (str, int, list, tuple, dict, set, frozenset, bytes) for name in dir(kind)}
PYTHONS_OWN = set(dir(__builtins__) if not isinstance(__builtins__, dict) else __builtins__)


def is_docstring(statement):
    return isinstance(statement, ast.Expr) and isinstance(statement.value, ast.Constant)


def signs(source):
    faults = []
    for number, line in enumerate(source.split("\n"), start=1):
        if len(line) > 120:
            faults.append(("L10", number))
        if any(not " " <= sign <= "~" for sign in line):
            faults.append(("L14", number))
        words = re.findall(r"\w+", line)
        if BANNED_WORDS.intersection(words) or any(part in line for part in BANNED_WITHIN):
            faults.append(("L17", number))
    if source.count("\n") > 400:
        faults.append(("L10", 400))
    for token in tokenize.generate_tokens(io.StringIO(source).readline):
        if token.type == tokenize.STRING and re.search(r"\\[^nt\\'\"\n]", token.string):
            faults.append(("L27", token.start[0]))
    return faults


def is_plain_value(value):
    if isinstance(value, (ast.List, ast.Tuple)):
        return all(is_plain_value(part) for part in value.elts)
    if isinstance(value, ast.Dict):
        return all(is_plain_value(part) for part in value.keys + value.values)
    if isinstance(value, ast.UnaryOp) and isinstance(value.op, ast.USub):
        return isinstance(value.operand, ast.Constant)
    return isinstance(value, (ast.Constant, ast.Name))


def top(tree):
    faults = []
    bound = []
    for at, statement in enumerate(tree.body):
        line = statement.lineno
        if isinstance(statement, (ast.FunctionDef, ast.ClassDef)):
            bound.append(statement.name)
        elif isinstance(statement, ast.ImportFrom):
            if statement.level or not (statement.module or "").startswith("bridgefind."):
                faults.append(("L2", line))
            if any(alias.name == "*" for alias in statement.names):
                faults.append(("L2", line))
            bound.extend(alias.asname or alias.name for alias in statement.names)
        elif isinstance(statement, ast.Import):
            faults.append(("L16", line))
        elif isinstance(statement, ast.Assign):
            if not is_plain_value(statement.value):
                faults.append(("L3", line))
            bound.extend(target.id for target in statement.targets if isinstance(target, ast.Name))
        elif at or not is_docstring(statement):
            faults.append(("L3", line))
    if len(set(bound)) < len(bound):
        faults.append(("L15", 1))
    return faults


def class_faults(node):
    faults = []
    if len(node.bases) > 1 or node.keywords or node.decorator_list:
        faults.append(("L5", node.lineno))
    names = [part.name for part in node.body if isinstance(part, ast.FunctionDef)]
    if len(set(names)) < len(names):
        faults.append(("L18", node.lineno))
    for part in node.body:
        if not isinstance(part, (ast.FunctionDef, ast.Pass)):
            faults.append(("L5", part.lineno))
    return faults


def def_faults(node, taken):
    faults = []
    handed = node.args
    if handed.vararg or handed.kwarg or handed.kwonlyargs or handed.posonlyargs or node.decorator_list:
        faults.append(("L4", node.lineno))
    if node.end_lineno - node.lineno + 1 > 40:
        faults.append(("L10", node.lineno))
    local = [part.arg for part in ast.walk(node) if isinstance(part, ast.arg)]
    for part in ast.walk(node):
        if isinstance(part, ast.Name) and isinstance(part.ctx, ast.Store):
            local.append(part.id)
    if taken.union(PYTHONS_OWN).intersection(local):
        faults.append(("L15", node.lineno))
    return faults


def statement_faults(node):
    line = node.lineno
    if not isinstance(node, STATEMENTS):
        return [("L6", line)]
    if isinstance(node, ast.Assign) and len(node.targets) > 1:
        return [("L6", line)]
    if isinstance(node, (ast.For, ast.While)) and node.orelse:
        return [("L6", line)]
    if isinstance(node, ast.Try) and (node.finalbody or any(part.type is None for part in node.handlers)):
        return [("L6", line)]
    if isinstance(node, ast.Expr) and not isinstance(node.value, ast.Call):
        return [("L6", line)]
    return []


def value_faults(node):
    line = node.lineno
    if not isinstance(node, EXPRESSIONS):
        return [("L7", line)]
    if isinstance(node, ast.Constant) and isinstance(node.value, (float, complex, bytes)):
        return [("L7", line)]
    if isinstance(node, ast.Constant) and isinstance(node.value, str) and "%" in node.value:
        return [("L27", line)]
    if isinstance(node, ast.BinOp) and isinstance(node.op, (ast.Div, ast.MatMult)):
        return [("L7", line)]
    if isinstance(node, ast.BinOp) and isinstance(node.op, ast.Pow):
        written = isinstance(node.right, ast.Constant) and 0 <= node.right.value <= 64
        return [] if written else [("L27", line)]
    if isinstance(node, ast.ListComp):
        if len(node.generators) > 1 or len(node.generators[0].ifs) > 1:
            return [("L7", line)]
    if isinstance(node, ast.FormattedValue) and not isinstance(node.value, ast.Name):
        return [("L7", line)]
    if isinstance(node, ast.Compare):
        for op, value in zip(node.ops, node.comparators):
            alone = isinstance(value, ast.Constant) and (value.value is None or isinstance(value.value, bool))
            if isinstance(op, (ast.Is, ast.IsNot)) and not alone:
                return [("L20", line)]
    return []


def name_faults(node, own):
    name = node.id if isinstance(node, ast.Name) else node.attr
    if name in BANNED_NAMES:
        return [("L17", node.lineno)]
    if not re.fullmatch(r"[A-Za-z][A-Za-z0-9_]*", name) and name not in DUNDER_METHODS:
        return [("L12", node.lineno)]
    if isinstance(node, ast.Name) and name in PYTHONS_OWN and name not in BUILTINS:
        return [("L8", node.lineno)]
    if isinstance(node, ast.Attribute) and name not in METHODS.union(own, DUNDER_METHODS):
        return [("L25", node.lineno)]
    return []


def called(node):
    """The name of Python's own or the program's that is called here, or None."""
    return node.func.id if isinstance(node, ast.Call) and isinstance(node.func, ast.Name) else None


def handler_faults(node):
    """L19: what may be taken, and round what."""
    faults = []
    inside = [part for statement in node.body for part in ast.walk(statement)]
    for handler in node.handlers:
        names = [part.id for part in ast.walk(handler.type) if isinstance(part, ast.Name)]
        if {"Exception", "TypeError"}.intersection(names):
            faults.append(("L19", handler.lineno))
        calls = [part for part in inside if isinstance(part, ast.Call)]
        if {"ValueError", "LookupError"}.intersection(names):
            round_right = all(called(part) in ("int", "str") or isinstance(part.func, ast.Attribute)
                              and part.func.attr in ("index", "remove") for part in calls)
            plain = not any(isinstance(part, (ast.JoinedStr, ast.Slice, ast.Lambda)) for part in inside)
            if not round_right or not plain or len(node.body) > 1:
                faults.append(("L19", handler.lineno))
        if "IndexError" in names and (calls or len(node.body) > 1):
            faults.append(("L19", handler.lineno))
    return faults


def call_faults(node, above):
    """L22 to L24: Python's own as they are called, walked at once, and sets."""
    name, line, faults = called(node), node.lineno, []
    if name in BUILTINS and not KEYWORDS.get(name, set()).issuperset(part.arg for part in node.keywords):
        faults.append(("L22", line))
    if name == "isinstance" and not isinstance(node.args[1], (ast.Name, ast.Tuple)):
        faults.append(("L22", line))
    method = node.func.attr if isinstance(node.func, ast.Attribute) else None
    if name in WALKED or method in WALKED_METHODS:
        behind_in = isinstance(above, (ast.For, ast.comprehension)) and above.iter is node
        walked = called(above) in WALKERS and (node in above.args[:1] or called(above) == "zip")
        joined = isinstance(above, ast.Call) and isinstance(above.func, ast.Attribute) and above.func.attr == "join"
        if not behind_in and not walked and not joined:
            faults.append(("L23", line))
    if name in ("set", "frozenset"):
        within = called(above) in ("sorted", "len") and not above.keywords
        if not within and not isinstance(above, (ast.Compare, ast.BinOp)):
            faults.append(("L24", line))
    return faults


def def_form_faults(node):
    """L21 and L28: annotations, and what an __init__ gives back."""
    faults = []
    if isinstance(node, ast.FunctionDef):
        if node.returns or any(part.annotation for part in ast.walk(node) if isinstance(part, ast.arg)):
            faults.append(("L21", node.lineno))
        told = [part for part in ast.walk(node) if isinstance(part, ast.Return) and part.value is not None]
        if node.name == "__init__" and told:
            faults.append(("L28", node.lineno))
    if isinstance(node, ast.AnnAssign):
        faults.append(("L21", node.lineno))
    return faults


def deep_faults(tree):
    """What is told by what stands around a thing."""
    faults = []
    for above in ast.walk(tree):
        faults.extend(def_form_faults(above))
        if isinstance(above, ast.Try):
            faults.extend(handler_faults(above))
        for node in ast.iter_child_nodes(above):
            if isinstance(node, ast.Call):
                faults.extend(call_faults(node, above))
    return faults


def class_names(trees):
    """The methods and the values of all classes."""
    methods, values = set(), set()
    for tree in trees:
        for node in ast.walk(tree):
            if isinstance(node, ast.ClassDef):
                methods.update(part.name for part in node.body if isinstance(part, ast.FunctionDef))
            if isinstance(node, ast.Attribute) and isinstance(node.ctx, ast.Store):
                values.add(node.attr)
    return methods, values


def class_name_faults(trees):
    methods, values = class_names(trees)
    faults = [("L18", name) for name in sorted(methods & values)]
    free_methods = METHODS | DUNDER_METHODS | {"add", "discard"}
    faults.extend(("L26", name) for name in sorted(methods & OF_PYTHONS_VALUES - free_methods))
    faults.extend(("L26", name) for name in sorted(values & (OF_PYTHONS_VALUES | NO_VALUES) - MAY_BE_VALUES))
    return faults


def own_attributes(trees):
    """What the package's classes have: their methods, and the values that they give to self."""
    methods, values = class_names(trees)
    return methods | values


def faults_of(source, own=None):
    tree = ast.parse(source)
    own = own_attributes([tree]) if own is None else own
    taken = set()
    for node in tree.body:
        if isinstance(node, ast.ClassDef):
            taken.add(node.name)
        elif isinstance(node, ast.ImportFrom):
            taken.update(alias.asname or alias.name for alias in node.names)
    faults = signs(source) + top(tree) + deep_faults(tree)
    for node in ast.walk(tree):
        if isinstance(node, ast.ClassDef):
            faults.extend(class_faults(node))
        elif isinstance(node, ast.stmt) and node not in tree.body:
            faults.extend(statement_faults(node))
        elif isinstance(node, ast.expr):
            faults.extend(value_faults(node))
        if isinstance(node, ast.FunctionDef):
            faults.extend(def_faults(node, taken))
        if isinstance(node, (ast.Name, ast.Attribute)):
            faults.extend(name_faults(node, own))
    return faults


class Language(unittest.TestCase):
    def files(self):
        return sorted(path for path in PACKAGE.rglob("*") if "__pycache__" not in path.parts)

    def test_only_plain_files_lie_in_the_package(self):
        names = [path.name for path in self.files()]
        self.assertIn("__init__.py", names)
        for name in names:
            self.assertRegex(name, r"\A([a-z][a-z0-9_]*|__init__|__main__)\.py\Z")

    def test_no_file_has_a_fault(self):
        sources = {path.name: path.read_text(encoding="utf-8") for path in self.files()}
        own = own_attributes([ast.parse(source) for source in sources.values()])
        for name, source in sources.items():
            with self.subTest(name=name):
                self.assertEqual(faults_of(source, own), [])

    def test_the_names_of_methods_and_values(self):
        trees = [ast.parse(path.read_text(encoding="utf-8")) for path in self.files()]
        self.assertEqual(class_name_faults(trees), [])

    def test_no_two_files_draw_from_one_another(self):
        drawn = {}
        for path in self.files():
            tree = ast.parse(path.read_text(encoding="utf-8"))
            drawn["bridgefind." + path.stem] = [node.module for node in tree.body
                                                if isinstance(node, ast.ImportFrom)]
        while drawn:
            free = [name for name in drawn if not any(other in drawn for other in drawn[name])]
            self.assertTrue(free, drawn)
            for name in free:
                del drawn[name]


class Checker(unittest.TestCase):
    """The checks above would see a fault."""

    def test_faults_are_seen(self):
        for rule, source in (
                ("L2", "from os.path import join\n"),
                ("L2", "from .errors import NoTree\n"),
                ("L3", "x = 10 ** 60\n"),
                ("L4", "def f(*xs):\n    return xs\n"),
                ("L5", "class A:\n    x = 3\n"),
                ("L6", "def f(x):\n    a = b = x\n    return a + b\n"),
                ("L6", "def f(x):\n    assert x\n"),
                ("L7", "def f(x):\n    return x / 2\n"),
                ("L7", "def f(x):\n    return {a: a for a in x}\n"),
                ("L7", "def f(x):\n    return 1.5 * x\n"),
                ("L8", "def f(x):\n    return hash(x)\n"),
                ("L10", "def f(x):\n" + "    x = x + 1\n" * 40),
                ("L12", "def f(x):\n    for _ in x:\n        pass\n"),
                ("L14", "x = '\u00e9'\n"),
                ("L15", "def f(x):\n    id = x\n    return id\n"),
                ("L16", "import sys\n"),
                ("L17", "# the type of it\nx = 3\n"),
                ("L17", "def f(x):\n    return getattr(x, 'y')\n"),
                ("L20", "def f(x, y):\n    return x is y\n"),
                ("L19", "def f(x):\n    try:\n        return int(f(x))\n    except ValueError:\n        return 0\n"),
                ("L19", "def f(x):\n    try:\n        return int(x)\n    except Exception:\n        return 0\n"),
                ("L19", "def f(x):\n    try:\n        return x[f(x)]\n    except IndexError:\n        return 0\n"),
                ("L21", "def f(x: int):\n    return x\n"),
                ("L22", "def f(x):\n    return int(x, base=3)\n"),
                ("L23", "def f(x):\n    y = zip(x, x)\n    return list(y)\n"),
                ("L23", "def f(x):\n    return reversed(x)\n"),
                ("L23", "def f(x):\n    y = x.items()\n    return list(y)\n"),
                ("L24", "def f(x):\n    y = set(x)\n    return 3 in y\n"),
                ("L24", "def f(x):\n    return [y for y in set(x)]\n"),
                ("L28", "class A:\n    def __init__(self):\n        return None\n"),
                ("L25", "def f(x):\n    return x.sort()\n"),
                ("L27", "def f(x):\n    return 2 ** x\n"),
                ("L27", "def f(x):\n    return '\\x41'\n")):
            with self.subTest(rule=rule, source=source):
                self.assertIn(rule, [fault[0] for fault in faults_of(source)])

    def test_names_of_methods_and_values_are_seen(self):
        for rule, source in (
                ("L18", "class A:\n    def far(self):\n        pass\n\n\n"
                        "class B:\n    def __init__(self):\n        self.far = 3\n"),
                ("L26", "class A:\n    def swapcase(self):\n        pass\n"),
                ("L26", "class A:\n    def __init__(self):\n        self.items = 3\n")):
            self.assertIn(rule, [fault[0] for fault in class_name_faults([ast.parse(source)])])
        source = "class A:\n    def __init__(self):\n        self.count = 3\n\n    def find(self):\n        pass\n"
        self.assertEqual(class_name_faults([ast.parse(source)]), [])

    def test_plain_code_has_none(self):
        source = '"""Why."""\n\nLIMIT = 3\n\n\ndef f(xs):\n    return [x for x in xs if x < LIMIT]\n'
        self.assertEqual(faults_of(source), [])


if __name__ == "__main__":
    unittest.main()
