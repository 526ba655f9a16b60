"""Holds the package's files to those rules of LANGUAGE.md that can be read off the code with little effort."""

import ast
import builtins
import re
import unittest
from pathlib import Path

PACKAGE = Path(__file__).resolve().parent.parent / "talkhall"

OWN_NAMES = set("""len range enumerate zip min max sum abs sorted reversed int str bool list tuple dict set frozenset
isinstance ord repr any all divmod Exception ValueError TypeError KeyError IndexError LookupError ZeroDivisionError
ArithmeticError OverflowError RuntimeError NotImplementedError StopIteration""".split())
METHODS = set("""append clear copy count endswith extend find get index insert isalnum isalpha isdigit islower isspace
isupper items join keys ljust lower lstrip partition pop remove replace reverse rfind rjust rpartition rsplit rstrip
setdefault split splitlines startswith strip update upper values zfill bit_length""".split())
NODES = set("""Module FunctionDef ClassDef Return Assign AugAssign For While If Raise Try ImportFrom Expr Pass Break
Continue BoolOp And Or BinOp UnaryOp Not USub UAdd Invert Lambda IfExp Dict Set ListComp comprehension Compare Call
JoinedStr FormattedValue Constant Attribute Subscript Name List Tuple Slice Load Store ExceptHandler arguments arg
keyword alias Add Sub Mult FloorDiv Mod Pow LShift RShift BitOr BitXor BitAnd Eq NotEq Lt LtE Gt GtE Is IsNot In
NotIn""".split())
UNDERSCORED = ("__init__", "__eq__", "__repr__", "__str__", "__len__")
WORDS = re.compile(r"\b(type|typing|typing_extensions|enum|Enum|IntEnum|StrEnum|Flag|IntFlag|Generic|Protocol|ABC|ABCMeta"
                   r"|namedtuple|NamedTuple|TypedDict|TYPE_CHECKING|abstractmethod)\b|dataclass|overload|contextmanager")
UNUSED = ("register", "mro", "elements", "open", "input", "version_info", "with_traceback", "add_note", "format",
          "format_map")

OF_PYTHON = set().union(*(dir(kind) for kind in (str, int, list, dict, set, bytes)))
VALUES_ALLOWED = set("count index title find get join lower upper split strip copy add".split())
VALUES_FORBIDDEN = set("""items keys values pop update append clear extend insert remove reverse setdefault sort args encode
format""".split())
WALKED = set("zip enumerate reversed range".split())
VIEWS = set("items keys values".split())
WALKERS = set("list tuple dict sorted sum any all enumerate zip".split())
CALLED_ONLY = OWN_NAMES - set("""int str bool list tuple dict Exception ValueError TypeError KeyError IndexError LookupError
ZeroDivisionError ArithmeticError OverflowError RuntimeError NotImplementedError StopIteration""".split())
AS_KEY = set("len int str abs sum min max tuple".split())
KEYWORDS = {"sorted": ("key", "reverse"), "min": ("key", "default"), "max": ("key", "default"), "sum": ("start",),
            "enumerate": ("start",), "zip": ("strict",)}
CHANGES = set("append clear extend insert pop remove reverse setdefault update".split())


def names_of(tree):
    """All names that a file binds, and the methods of its classes."""
    bound = set()
    for node in ast.walk(tree):
        if isinstance(node, (ast.FunctionDef, ast.ClassDef)):
            bound.add(node.name)
        elif isinstance(node, ast.arg):
            bound.add(node.arg)
        elif isinstance(node, ast.alias):
            bound.add(node.asname or node.name)
        elif isinstance(node, ast.ExceptHandler) and node.name:
            bound.add(node.name)
        elif isinstance(node, ast.Name) and isinstance(node.ctx, ast.Store):
            bound.add(node.id)
    return bound


def faults_of_text(text):
    lines = text.split("\n")
    if len(lines) > 401:
        yield "L10 the file is long"
    for number, line in enumerate(lines, 1):
        if len(line) > 120:
            yield f"L10 line {number} is long"
        if any(not " " <= sign <= "~" for sign in line):
            yield f"L14 line {number} has another sign"
        if WORDS.search(line):
            yield f"L17 line {number} has a word that stands nowhere"


def faults_of_top(tree):
    for place, node in enumerate(tree.body):
        docstring = place == 0 and isinstance(node, ast.Expr) and isinstance(node.value, ast.Constant)
        single = isinstance(node, ast.Assign) and isinstance(node.targets[0], ast.Name)
        if not (docstring or single or isinstance(node, (ast.ImportFrom, ast.FunctionDef, ast.ClassDef))):
            yield f"L3 line {node.lineno}"
    tops = [node.name for node in tree.body if isinstance(node, (ast.FunctionDef, ast.ClassDef))]
    tops += [node.targets[0].id for node in tree.body if isinstance(node, ast.Assign)]
    if len(tops) != len(set(tops)):
        yield "L15 a name is bound twice"


def faults_of_node(node, bound):
    line = f"line {getattr(node, 'lineno', 0)}"
    if type(node).__name__ not in NODES:
        yield f"L6, L7 {line} {type(node).__name__}"
    if isinstance(node, ast.ImportFrom) and (node.level or not re.match(r"talkhall\.\w+$", node.module)):
        yield f"L2 {line}"
    if isinstance(node, ast.FunctionDef):
        if node.decorator_list or node.args.vararg or node.args.kwarg or node.args.kwonlyargs:
            yield f"L4 {line}"
        if node.end_lineno - node.lineno >= 40:
            yield f"L10 {line} the function is long"
    if isinstance(node, ast.Expr) and not isinstance(node.value, ast.Call) and node.col_offset:
        yield f"L6 {line} no call by itself"
    if isinstance(node, ast.Assign) and (len(node.targets) > 1 or isinstance(node.targets[0], ast.Tuple)):
        yield f"L6 {line} several targets"
    if isinstance(node, (ast.For, ast.While)) and node.orelse or isinstance(node, ast.Try) and node.finalbody:
        yield f"L6 {line}"
    if isinstance(node, ast.Constant) and isinstance(node.value, (float, bytes, complex)):
        yield f"L7 {line}"
    if isinstance(node, ast.Constant) and isinstance(node.value, str) and "%" in node.value:
        yield f"L27 {line}"
    if isinstance(node, ast.ListComp) and (len(node.generators) > 1 or len(node.generators[0].ifs) > 1):
        yield f"L7 {line}"
    if isinstance(node, ast.Name) and node.id not in bound | OWN_NAMES:
        yield f"L8 {line} {node.id}"
    if isinstance(node, ast.Call) and isinstance(node.func, ast.Attribute) and node.func.attr not in METHODS | bound | {
            "__init__"}:
        yield f"L25 {line} {node.func.attr}"
    if isinstance(node, ast.Attribute) and node.attr in UNUSED:
        yield f"L17 {line} {node.attr}"
    if isinstance(node, ast.Compare):
        sides = [node.left] + node.comparators
        for place, sign in enumerate(node.ops):
            plain = any(isinstance(side, ast.Constant) and repr(side.value) in ("None", "True", "False")
                        for side in sides[place:place + 2])
            if isinstance(sign, (ast.Is, ast.IsNot)) and not plain:
                yield f"L20 {line}"


def parents_of(tree):
    return {child: node for node in ast.walk(tree) for child in ast.iter_child_nodes(node)}


def name_of_call(node):
    return node.func.id if isinstance(node, ast.Call) and isinstance(node.func, ast.Name) else None


def is_walked(node, parent):
    if isinstance(parent, (ast.For, ast.comprehension)):
        return node is parent.iter
    if name_of_call(parent) in WALKERS:
        return node is parent.args[0]
    if name_of_call(parent) in ("min", "max"):
        return len(parent.args) == 1
    return isinstance(parent, ast.Call) and isinstance(parent.func, ast.Attribute) and parent.func.attr == "join"


def is_asked_at_once(node, parent):
    """Whether a set stands where no order of its members can show."""
    if isinstance(parent, ast.BinOp):
        return True
    return isinstance(parent, ast.Compare) or name_of_call(parent) in ("sorted", "len") and not parent.keywords


def faults_of_places(tree):
    """Walks, sets, and Python's own names that stand where they may not."""
    parents = parents_of(tree)
    for node in ast.walk(tree):
        parent = parents.get(node)
        line = f"line {getattr(node, 'lineno', 0)}"
        view = isinstance(node, ast.Call) and isinstance(node.func, ast.Attribute) and node.func.attr in VIEWS
        if (view or name_of_call(node) in WALKED) and not is_walked(node, parent):
            yield f"L23 {line}"
        if name_of_call(node) in ("set", "frozenset") and not is_asked_at_once(node, parent):
            yield f"L24 {line}"
        if isinstance(node, ast.Name) and node.id in CALLED_ONLY and not (
                isinstance(parent, ast.Call) and node is parent.func
                or isinstance(parent, ast.keyword) and parent.arg == "key" and node.id in AS_KEY):
            yield f"L22 {line} {node.id}"
        if isinstance(node, ast.BinOp) and isinstance(node.op, ast.Pow) and not isinstance(node.right, ast.Constant):
            yield f"L27 {line}"
        # The rules let some more be taken round a few calls; this package needs none of that.
        if isinstance(node, ast.ExceptHandler) and (
                not isinstance(node.type, ast.Name) or node.type.id in OWN_NAMES - {"KeyError"}):
            yield f"L19 {line}"


def walked_names(node):
    """The names that a loop walks, straight or through enumerate and its like."""
    if isinstance(node, ast.Name):
        return {node.id}
    if name_of_call(node) in ("enumerate", "zip", "reversed"):
        return set().union(*(walked_names(part) for part in node.args))
    if isinstance(node, ast.Call) and isinstance(node.func, ast.Attribute) and node.func.attr in VIEWS:
        return walked_names(node.func.value)
    return set()


def changed_names(node):
    """The names whose things are changed somewhere below this node."""
    for part in ast.walk(node):
        if isinstance(part, ast.Subscript) and isinstance(part.ctx, ast.Store) and isinstance(part.value, ast.Name):
            yield part.value.id
        if isinstance(part, ast.Call) and isinstance(part.func, ast.Attribute) and part.func.attr in CHANGES:
            if isinstance(part.func.value, ast.Name):
                yield part.func.value.id


def faults_of_forms(tree):
    tops = {node.targets[0].id for node in tree.body if isinstance(node, ast.Assign)}
    for node in ast.walk(tree):
        line = f"line {getattr(node, 'lineno', 0)}"
        if isinstance(node, ast.FormattedValue) and (
                not isinstance(node.value, ast.Name) or node.format_spec or node.conversion not in (-1, ord("r"))):
            yield f"L7 {line} no plain name in an f-string"
        if name_of_call(node) in OWN_NAMES and any(
                word.arg not in KEYWORDS.get(node.func.id, ()) for word in node.keywords):
            yield f"L22 {line}"
        if isinstance(node, ast.For) and walked_names(node.iter) & {
                name for part in node.body for name in changed_names(part)}:
            yield f"L23 {line} what is walked is changed"
        if isinstance(node, ast.FunctionDef) and tops & set(changed_names(node)):
            yield f"L15 {line} a thing of the file's top is changed"


def faults_of_locals(tree):
    taken = {node.name for node in tree.body if isinstance(node, ast.ClassDef)} | set(dir(builtins))
    taken |= {alias.asname or alias.name for node in tree.body if isinstance(node, ast.ImportFrom)
              for alias in node.names}
    for node in ast.walk(tree):
        name = node.arg if isinstance(node, ast.arg) else None
        if isinstance(node, ast.Name) and isinstance(node.ctx, ast.Store):
            name = node.id
        if name in taken:
            yield f"L15 line {node.lineno} {name}"


def methods_and_values(tree):
    methods = [part.name for node in ast.walk(tree) if isinstance(node, ast.ClassDef)
               for part in node.body if isinstance(part, ast.FunctionDef)]
    values = [node.attr for node in ast.walk(tree) if isinstance(node, ast.Attribute) and isinstance(node.ctx, ast.Store)]
    return set(methods) - set(UNDERSCORED), set(values)


def faults_of_classes(trees):
    """The classes of all files together, since a name that is a method here may be no value there."""
    methods, values = set(), set()
    for tree in trees:
        more = methods_and_values(tree)
        methods |= more[0]
        values |= more[1]
        for node in ast.walk(tree):
            if isinstance(node, ast.ClassDef):
                names = [part.name for part in node.body if isinstance(part, ast.FunctionDef)]
                plain = all(isinstance(part, (ast.FunctionDef, ast.Pass)) for part in node.body)
                if len(node.bases) > 1 or node.keywords or node.decorator_list or not plain:
                    yield f"L5 {node.name}"
                if len(names) != len(set(names)):
                    yield f"L18 {node.name} has a method twice"
    for name in sorted(methods & values):
        yield f"L18 {name} is a method and a value"
    for name in sorted(methods & OF_PYTHON - METHODS - {"add", "discard"}):
        yield f"L26 the method {name}"
    for name in sorted(values & OF_PYTHON - VALUES_ALLOWED | values & VALUES_FORBIDDEN):
        yield f"L26 the value {name}"


def faults_of(text, methods=frozenset()):
    tree = ast.parse(text)
    bound = names_of(tree)
    faults = list(faults_of_text(text)) + list(faults_of_top(tree))
    faults += list(faults_of_places(tree)) + list(faults_of_forms(tree)) + list(faults_of_locals(tree))
    for name in sorted(bound):
        if name not in UNDERSCORED and not re.match(r"[A-Za-z][A-Za-z0-9_]*$", name):
            faults.append(f"L12 {name}")
        if name in OWN_NAMES | set(UNUSED):
            faults.append(f"L8, L15, L17 {name}")
    for node in ast.walk(tree):
        faults += faults_of_node(node, bound | methods)
    return faults


def drawn_from(text):
    return [node.module.split(".")[1] for node in ast.walk(ast.parse(text)) if isinstance(node, ast.ImportFrom)]


class Language(unittest.TestCase):
    def setUp(self):
        self.texts = {path.stem: path.read_text("utf-8") for path in sorted(PACKAGE.glob("*.py"))}

    def test_the_folder_holds_plain_files_alone(self):
        self.assertIn("__init__", self.texts)
        for path in PACKAGE.iterdir():
            if path.name != "__pycache__":
                self.assertRegex(path.name, r"^([a-z][a-z0-9_]*|__init__)\.py$")

    def test_each_file_keeps_to_the_rules(self):
        methods = set()
        for text in self.texts.values():
            methods |= names_of(ast.parse(text))
        for name, text in self.texts.items():
            self.assertEqual(faults_of(text, frozenset(methods)), [], name)

    def test_the_classes_keep_to_the_rules(self):
        self.assertEqual(list(faults_of_classes([ast.parse(text) for text in self.texts.values()])), [])

    def test_no_two_files_draw_from_one_another(self):
        draws = {name: drawn_from(text) for name, text in self.texts.items()}
        settled = []
        while len(settled) < len(draws):
            free = [name for name in draws if name not in settled and all(other in settled for other in draws[name])]
            self.assertTrue(free, f"a ring among {sorted(set(draws) - set(settled))}")
            settled += free

    def test_a_breach_is_seen(self):
        breaches = ("import os\n", "from talkhall import words\n", "x = 1\nx = 2\n", "print(1)\n",
                    "def f():\n    x = y = 1\n", "def f(*a):\n    pass\n", "def f(a):\n    return a / 2\n",
                    "def f(a):\n    return {b for b in a}\n", "def f(a):\n    return a is f\n", "def f(len):\n    pass\n",
                    "def _f():\n    pass\n", "# the type of it\n", "# caf\u00e9\n", "x = 1.5\n",
                    "def f(a):\n    a.sort()\n", "def f(a):\n    \"told\"\n", "def f(a):\n    assert a\n",
                    "x = \"" + "y" * 120 + "\"\n", "def f():\n" + "    pass\n" * 40, "x = 1\n" + "\n" * 400,
                    "def f(a):\n    return getattr(a, \"b\")\n", "x = \"5%\"\n",
                    "def f(a):\n    return 1 in a.values()\n", "def f(a):\n    b = range(a)\n    return b\n",
                    "def f(a):\n    b = set(a)\n    return b\n", "def f(a):\n    return sorted(a, key=repr)\n",
                    "def f(a):\n    return 2 ** a\n", "def f(map):\n    pass\n",
                    "from talkhall.words import called\n\n\ndef f(called):\n    pass\n",
                    "def f(a):\n    try:\n        a()\n    except TypeError:\n        pass\n",
                    "def f(a):\n    try:\n        a()\n    except ValueError:\n        pass\n",
                    "def f(a):\n    return f\"{a + 1}\"\n", "def f(a):\n    return f\"{a:3}\"\n",
                    "def f(a):\n    return int(a, base=2)\n", "def f(a):\n    for b in a:\n        a.append(b)\n",
                    "def f(a):\n    for b, c in a.items():\n        a[b] = 1\n", "x = []\n\n\ndef f(a):\n    x.append(a)\n",
                    "x = {}\n\n\ndef f(a):\n    x[a] = 1\n")
        for text in breaches:
            with self.subTest(text):
                self.assertNotEqual(faults_of(text), [])

    def test_a_breach_of_classes_is_seen(self):
        value = "class A:\n    def __init__(self):\n        self.{} = 1\n"
        method = "class B:\n    def {}(self):\n        pass\n"
        breaches = ((value.format("rows"), method.format("rows")), (value.format("items"),), (value.format("sort"),),
                    (method.format("sort"),), (method.format("f") + "    def f(self):\n        pass\n",),
                    ("class A(B, C):\n    pass\n",), ("class A:\n    x = 1\n",))
        for texts in breaches:
            with self.subTest(texts):
                self.assertNotEqual(list(faults_of_classes([ast.parse(text) for text in texts])), [])
        fine = (value.format("count"), method.format("get"))
        self.assertEqual(list(faults_of_classes([ast.parse(text) for text in fine])), [])


if __name__ == "__main__":
    unittest.main()
