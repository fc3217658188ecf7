"""The package keeps to its small part of Python: the rules that can be read off the code."""

import ast
import builtins
import io
import pathlib
import re
import tokenize
import unittest

PACKAGE = pathlib.Path(__file__).resolve().parent.parent / "tallyveil"

PYTHONS = set(dir(builtins))
OWN_NAMES = set(
    "len range enumerate zip min max sum abs sorted reversed int str bool list tuple dict set frozenset isinstance "
    "ord repr any all divmod Exception ValueError TypeError KeyError IndexError LookupError ZeroDivisionError "
    "ArithmeticError OverflowError RuntimeError NotImplementedError AttributeError StopIteration".split())
METHODS = set(
    "append clear copy count endswith extend find get index insert isalnum isalpha isdigit islower isspace isupper "
    "items join keys ljust lower lstrip partition pop remove replace reverse rfind rjust rpartition rsplit rstrip "
    "setdefault split splitlines startswith strip update upper values zfill bit_length".split())
DUNDERS = {"__init__", "__eq__", "__repr__", "__str__", "__len__"}
UNUSED_NAMES = set(
    "register mro elements open input version_info with_traceback add_note attrgetter breakpoint builtins compile "
    "copyright credits delattr dir eval exec exit gc getattr globals hasattr help id importlib license locals "
    "methodcaller os quit setattr super vars sys".split())
UNUSED_WORDS = re.compile(
    r"\b(type|typing|typing_extensions|enum|Enum|IntEnum|StrEnum|Flag|IntFlag|Generic|Protocol|ABC|ABCMeta|namedtuple"
    r"|NamedTuple|TypedDict|TYPE_CHECKING|abstractmethod)\b|dataclass|overload|contextmanager")
STATEMENTS = (ast.Assign, ast.AugAssign, ast.If, ast.While, ast.For, ast.Return, ast.Break, ast.Continue, ast.Pass,
              ast.Raise, ast.Try, ast.FunctionDef, ast.ClassDef, ast.ImportFrom)
EXPRESSIONS = (ast.Constant, ast.List, ast.Tuple, ast.Dict, ast.Set, ast.BinOp, ast.UnaryOp, ast.BoolOp, ast.Compare,
               ast.IfExp, ast.Call, ast.Attribute, ast.Subscript, ast.Slice, ast.ListComp, ast.JoinedStr,
               ast.FormattedValue, ast.Name, ast.Lambda)
KEYWORDS = {"sorted": ("key", "reverse"), "min": ("key", "default"), "max": ("key", "default"), "sum": ("start",),
            "enumerate": ("start",), "zip": ("strict",)}
CHANGERS = {"append", "clear", "extend", "insert", "pop", "remove", "reverse", "setdefault", "update"}
WALKED = {"zip", "enumerate", "reversed", "range", "items", "keys", "values"}
WALKERS = {"list", "tuple", "dict", "sorted", "sum", "any", "all", "enumerate", "zip", "min", "max", "join"}
NO_VALUES = CHANGERS | set("items keys values sort args encode format".split())


def faults_of_text(text):
    """Rules about signs, words and sizes of a file, as (rule, line)."""
    rows = text.split("\n")
    faults = [("L10", 1)] if len(rows) - 1 > 400 else []
    for number, row in enumerate(rows, 1):
        if len(row) > 120:
            faults.append(("L10", number))
        if any(not " " <= sign <= "~" for sign in row):
            faults.append(("L14", number))
        if UNUSED_WORDS.search(row):
            faults.append(("L17", number))
    return faults


def is_docstring(node):
    return isinstance(node, ast.Expr) and isinstance(node.value, ast.Constant) and isinstance(node.value.value, str)


def faults_of_top(tree):
    faults, bound = [], []
    for number, node in enumerate(tree.body):
        if isinstance(node, (ast.FunctionDef, ast.ClassDef)):
            bound.append(node.name)
        elif isinstance(node, ast.ImportFrom):
            bound.extend(alias.name for alias in node.names)
        elif isinstance(node, ast.Assign) and isinstance(node.targets[0], ast.Name):
            bound.append(node.targets[0].id)
            plain = (ast.Constant, ast.List, ast.Tuple, ast.Dict, ast.Name, ast.UnaryOp, ast.USub, ast.Load)
            if not all(isinstance(part, plain) for part in ast.walk(node.value)):
                faults.append(("L3", node.lineno))
        elif not (number == 0 and is_docstring(node)):
            faults.append(("L3", node.lineno))
    return faults + [("L15", 1) for name in set(bound) if bound.count(name) > 1]


def faults_of_statement(node):
    if isinstance(node, ast.Expr):
        return [] if isinstance(node.value, ast.Call) or is_docstring(node) and node.lineno == 1 else [("L6", node.lineno)]
    if not isinstance(node, STATEMENTS):
        return [("L6", node.lineno)]
    if isinstance(node, ast.Assign) and len(node.targets) != 1:
        return [("L6", node.lineno)]
    if isinstance(node, (ast.For, ast.While)) and node.orelse:
        return [("L6", node.lineno)]
    if isinstance(node, ast.Try) and node.finalbody:
        return [("L6", node.lineno)]
    if isinstance(node, ast.For) and walks_what_it_changes(node):
        return [("L23", node.lineno)]
    if isinstance(node, ast.Raise) and not (node.exc is None or isinstance(node.exc, ast.Call)):
        return [("L19", node.lineno)]
    return faults_of_import(node) + faults_of_function(node) + faults_of_class(node)


def walks_what_it_changes(loop):
    if not isinstance(loop.iter, ast.Name):
        return False
    changed = [node.func.value.id for node in ast.walk(loop) if isinstance(node, ast.Call)
               and isinstance(node.func, ast.Attribute) and node.func.attr in CHANGERS
               and isinstance(node.func.value, ast.Name)]
    changed += [node.value.id for node in ast.walk(loop) if isinstance(node, ast.Subscript)
                and isinstance(node.ctx, ast.Store) and isinstance(node.value, ast.Name)]
    return loop.iter.id in changed


def faults_of_import(node):
    if not isinstance(node, ast.ImportFrom):
        return []
    own = node.level == 0 and (node.module or "").startswith("tallyveil.")
    plain = all(alias.name != "*" and alias.asname is None for alias in node.names)
    return [] if own and plain else [("L2", node.lineno)]


def faults_of_function(node):
    if not isinstance(node, ast.FunctionDef):
        return []
    faults = []
    if node.args.vararg or node.args.kwarg or node.args.kwonlyargs or node.args.posonlyargs or node.decorator_list:
        faults.append(("L4", node.lineno))
    if node.end_lineno - node.lineno + 1 > 40:
        faults.append(("L10", node.lineno))
    for arg in node.args.args:
        if arg.arg in PYTHONS:
            faults.append(("L15", node.lineno))
    return faults


def faults_of_class(node):
    if not isinstance(node, ast.ClassDef):
        return []
    bodied = all(isinstance(part, (ast.FunctionDef, ast.Pass)) for part in node.body)
    methods = [part.name for part in node.body if isinstance(part, ast.FunctionDef)]
    faults = [] if bodied and len(node.bases) <= 1 and not node.decorator_list else [("L5", node.lineno)]
    return faults + ([("L18", node.lineno)] if len(set(methods)) != len(methods) else [])


def faults_of_handler(node):
    caught = node.type.elts if isinstance(node.type, ast.Tuple) else [node.type]
    named = all(isinstance(one, ast.Name) and one.id not in ("Exception", "TypeError") for one in caught)
    return [] if named else [("L19", node.lineno)]


def faults_of_keywords(node):
    """Of Python's own that are called by their name."""
    if not isinstance(node, ast.Call) or not isinstance(node.func, ast.Name) or node.func.id not in PYTHONS:
        return []
    allowed = KEYWORDS.get(node.func.id, ())
    return [("L22", node.lineno) for keyword in node.keywords if keyword.arg not in allowed]


def faults_of_locals(tree):
    """Parameters and locals that are called like a class or an import of their file."""
    taken = {node.name for node in tree.body if isinstance(node, ast.ClassDef)}
    for node in tree.body:
        if isinstance(node, ast.ImportFrom):
            taken.update(alias.name for alias in node.names)
    faults = []
    for node in ast.walk(tree):
        name = node.arg if isinstance(node, ast.arg) else node.id if isinstance(node, ast.Name) else None
        if name in taken and not isinstance(getattr(node, "ctx", None), ast.Load):
            faults.append(("L15", node.lineno))
    return faults


def faults_of_name(name, line):
    if name in DUNDERS:
        return []
    if name.startswith("_") or not re.fullmatch(r"[A-Za-z0-9_]+", name):
        return [("L12", line)]
    return [("L17", line)] if name in UNUSED_NAMES else []


def faults_of_expression(node):
    if not isinstance(node, EXPRESSIONS):
        return [("L7", node.lineno)]
    if isinstance(node, ast.Constant) and isinstance(node.value, (float, complex, bytes)):
        return [("L7", node.lineno)]
    if isinstance(node, ast.BinOp) and isinstance(node.op, (ast.Div, ast.MatMult)):
        return [("L7", node.lineno)]
    if isinstance(node, ast.BinOp) and isinstance(node.op, ast.Pow) and not isinstance(node.right, ast.Constant):
        return [("L27", node.lineno)]
    if isinstance(node, ast.ListComp) and (len(node.generators) != 1 or len(node.generators[0].ifs) > 1):
        return [("L7", node.lineno)]
    if isinstance(node, ast.FormattedValue) and not isinstance(node.value, ast.Name):
        return [("L7", node.lineno)]
    if isinstance(node, ast.Compare) and any(isinstance(sign, (ast.Is, ast.IsNot)) for sign in node.ops):
        beside = node.comparators[-1]
        return [] if isinstance(beside, ast.Constant) and beside.value in (None, True, False) else [("L20", node.lineno)]
    if isinstance(node, ast.Constant) and isinstance(node.value, str) and "%" in node.value:
        return [("L27", node.lineno)]
    if isinstance(node, ast.Name):
        return faults_of_plain_name(node)
    return faults_of_name(node.attr, node.lineno) if isinstance(node, ast.Attribute) else []


def faults_of_plain_name(node):
    faults = faults_of_name(node.id, node.lineno)
    if node.id in PYTHONS:
        if isinstance(node.ctx, ast.Store):
            faults.append(("L15", node.lineno))
        elif node.id not in OWN_NAMES:
            faults.append(("L8", node.lineno))
    return faults


def faults_of_methods(tree, own_methods):
    return [("L25", node.lineno) for node in ast.walk(tree)
            if isinstance(node, ast.Call) and isinstance(node.func, ast.Attribute)
            and node.func.attr not in METHODS | DUNDERS | own_methods]


def called_name(node):
    """The name by which something is called, bare or as a method."""
    if not isinstance(node, ast.Call):
        return None
    return node.func.id if isinstance(node.func, ast.Name) else getattr(node.func, "attr", None)


def faults_of_strings(text):
    strings = [token for token in tokenize.generate_tokens(io.StringIO(text).readline) if token.type == tokenize.STRING]
    return [("L27", token.start[0]) for token in strings if re.search(r"\\[^nt\\'\"]", token.string)]


def faults_by_parent(tree, own_methods):
    """Rules about what stands within what."""
    classes = {node.name for node in tree.body if isinstance(node, ast.ClassDef)}
    classes.update(alias.name for node in tree.body if isinstance(node, ast.ImportFrom) for alias in node.names
                   if re.match("[A-Z][a-z]", alias.name))
    faults = []
    for parent in ast.walk(tree):
        for child in ast.iter_child_nodes(parent):
            if called_name(child) in WALKED and not is_walked(parent, child):
                faults.append(("L23", child.lineno))
            if isinstance(child, ast.Name) and child.id in classes and not may_name_class(parent, child):
                faults.append(("L18", child.lineno))
            if (isinstance(child, ast.Attribute) and isinstance(child.ctx, ast.Load)
                    and child.attr in METHODS | own_methods and getattr(parent, "func", None) is not child):
                faults.append(("L25", child.lineno))
    return faults


def is_walked(parent, child):
    if isinstance(parent, (ast.For, ast.comprehension)):
        return parent.iter is child
    return called_name(parent) in WALKERS and parent.args[0] is child


def may_name_class(parent, child):
    if isinstance(parent, ast.Call):
        return parent.func is child or called_name(parent) == "isinstance"
    return isinstance(parent, (ast.ClassDef, ast.ExceptHandler, ast.Attribute))


def faults_of_kinds(node):
    """Sets, annotations, kinds that are asked for, and errors of Python's own that are taken: what needs no such thing."""
    if isinstance(node, ast.Set) or called_name(node) in ("set", "frozenset"):
        return [("L24", node.lineno)]
    if isinstance(node, ast.AnnAssign) or getattr(node, "annotation", None) or getattr(node, "returns", None):
        return [("L21", node.lineno)]
    if called_name(node) == "isinstance":
        kinds = node.args[1].elts if isinstance(node.args[1], ast.Tuple) else [node.args[1]]
        return [] if all(isinstance(kind, ast.Name) for kind in kinds) else [("L22", node.lineno)]
    if isinstance(node, ast.ExceptHandler) and node.type is not None:
        taken = {name.id for name in ast.walk(node.type) if isinstance(name, ast.Name)}
        return [("L19", node.lineno)] if taken & {"ValueError", "LookupError", "IndexError"} else []
    if isinstance(node, ast.Attribute) and isinstance(node.ctx, ast.Store) and node.attr in NO_VALUES:
        return [("L26", node.lineno)]
    if isinstance(node, ast.FunctionDef) and node.name == "__init__":
        return [("L28", part.lineno) for part in ast.walk(node) if isinstance(part, ast.Return) and part.value]
    return []


def faults_of(text, own_methods=frozenset()):
    tree = ast.parse(text)
    faults = faults_of_text(text) + faults_of_top(tree) + faults_of_methods(tree, own_methods) + faults_of_locals(tree)
    faults += faults_of_strings(text) + faults_by_parent(tree, own_methods)
    for node in ast.walk(tree):
        faults.extend(faults_of_kinds(node))
        if isinstance(node, ast.stmt):
            faults.extend(faults_of_statement(node))
        elif isinstance(node, ast.expr):
            faults.extend(faults_of_expression(node) + faults_of_keywords(node))
        elif isinstance(node, ast.ExceptHandler):
            faults.extend(faults_of_handler(node))
        if isinstance(node, (ast.FunctionDef, ast.ClassDef)):
            faults.extend(faults_of_name(node.name, node.lineno))
        if isinstance(node, ast.arg):
            faults.extend(faults_of_name(node.arg, node.lineno))
    return sorted(set(faults))


def trees():
    return {path.stem: ast.parse(path.read_text("utf-8")) for path in sorted(PACKAGE.glob("*.py"))}


def methods_and_values():
    methods, values = set(), set()
    for tree in trees().values():
        for owner in [node for node in tree.body if isinstance(node, ast.ClassDef)]:
            methods.update(node.name for node in owner.body if isinstance(node, ast.FunctionDef))
        values.update(node.attr for node in ast.walk(tree)
                      if isinstance(node, ast.Attribute) and isinstance(node.ctx, ast.Store))
    return methods, values


class Package(unittest.TestCase):
    def test_each_file_keeps_to_the_rules(self):
        methods, values = methods_and_values()
        for path in sorted(PACKAGE.glob("*.py")):
            with self.subTest(path.name):
                self.assertEqual(faults_of(path.read_text("utf-8"), methods), [])

    def test_nothing_else_lies_in_the_package(self):
        names = [path.name for path in PACKAGE.iterdir() if path.name != "__pycache__"]
        self.assertIn("__init__.py", names)
        for name in names:
            self.assertRegex(name, r"^([a-z][a-z0-9_]*|__init__|__main__)\.py$")
            self.assertNotIn(name[:-3], PYTHONS)

    def test_no_name_is_a_method_and_a_value(self):
        methods, values = methods_and_values()
        self.assertEqual(methods & values, set())

    def test_no_two_files_draw_from_one_another(self):
        drawn = {stem: {node.module.split(".")[-1] for node in tree.body if isinstance(node, ast.ImportFrom)}
                 for stem, tree in trees().items()}
        while drawn:
            free = [stem for stem in drawn if not drawn[stem] & set(drawn)]
            self.assertTrue(free, drawn)
            drawn = {stem: drawn[stem] for stem in drawn if stem not in free}

    def test_names_are_drawn_from_the_file_that_defines_them(self):
        defined = {}
        for stem, tree in trees().items():
            defined[stem] = {node.name for node in tree.body if isinstance(node, (ast.FunctionDef, ast.ClassDef))}
            defined[stem] |= {node.targets[0].id for node in tree.body if isinstance(node, ast.Assign)}
        for tree in trees().values():
            for node in tree.body:
                if isinstance(node, ast.ImportFrom):
                    for alias in node.names:
                        self.assertIn(alias.name, defined[node.module.split(".")[-1]])


class Checks(unittest.TestCase):
    """That the rules above bite."""

    def test_faults_are_told_with_rule_and_line(self):
        bad = {
            "import os\n": "L6", "from os import path\n": "L2", "from .errors import NoHouse\n": "L2",
            "x = 1\nx = 2\n": "L15", "print(1)\n": "L8", "x = len([])\n": "L3", "x = [1 for y in [1]]\n": "L3",
            "def f(*a):\n    return a\n": "L4", "def f(id):\n    return 1\n": "L15",
            "def f(a):\n    del a\n": "L6", "def f(a):\n    assert a\n": "L6", "def f(a):\n    with a:\n        pass\n": "L6",
            "def f(a):\n    a = b = 1\n": "L6", "def f(a):\n    'words'\n": "L6",
            "def f(a):\n    return 1.5\n": "L7", "def f(a):\n    return a / 2\n": "L7",
            "def f(a):\n    return {b for b in a}\n": "L7", "def f(a):\n    return [b for c in a for b in c]\n": "L7",
            "def f(a):\n    return f'{a.b}'\n": "L7", "def f(a):\n    return 2 ** a\n": "L27",
            "def f(a):\n    return a is f\n": "L20", "def f(a):\n    return getattr(a, 'b')\n": "L8",
            "def f(a):\n    a.sort()\n": "L25", "def f(a):\n    return a._b\n": "L12",
            "def f(a):\n    for b in a:\n        a.append(b)\n": "L23", "def f(a):\n    raise a\n": "L19",
            "def f(a):\n    try:\n        a()\n    except Exception:\n        return 1\n": "L19",
            "def f(a):\n    try:\n        a()\n    except:\n        return 1\n": "L19",
            "def f(a):\n    return int(a, base=2)\n": "L22", "def f(a):\n    return dict(b=a)\n": "L22",
            "from tallyveil.sums import added\n\n\ndef f(added):\n    return 1\n": "L15",
            "class A:\n    pass\n\n\ndef f():\n    A = 1\n    return A\n": "L15",
            "def f(a):\n    return zip(a, a)\n": "L23", "def f(a):\n    b = a.items()\n    return list(b)\n": "L23",
            "def f(a):\n    return len(range(a))\n": "L23", "def f(a):\n    return sorted([1], key=a.get)\n": "L25",
            "def f(a):\n    return set(a)\n": "L24", "def f(a):\n    return a in {1, 2}\n": "L24",
            "def f(a: int):\n    return a\n": "L21", "def f(a) -> int:\n    return a\n": "L21",
            "def f(a):\n    b: int = a\n    return b\n": "L21", "def f(a, b):\n    return isinstance(a, b.c)\n": "L22",
            "class A:\n    pass\n\n\ndef f():\n    return [A]\n": "L18",
            "from tallyveil.houses import House\n\n\ndef f(a):\n    return a(House)\n": "L18",
            "class A:\n    def __init__(self):\n        self.items = 1\n": "L26",
            "class A:\n    def __init__(self):\n        return None\n": "L28",
            "def f(a):\n    try:\n        return int(a)\n    except ValueError:\n        return 1\n": "L19",
            "X = '\\x41'\n": "L27", "X = '\\0'\n": "L27",
            "class A:\n    x = 1\n": "L5", "# the type\n": "L17", "x = '\u00e4'\n": "L14", "\tx = 1\n".strip() + "\t\n": "L14",
            "# " + "x" * 120 + "\n": "L10", "def f(a):\n" + "    a = 1\n" * 40: "L10", "x = 1\n" + "\n" * 400: "L10",
        }
        for text, rule in bad.items():
            with self.subTest(ascii(text)):
                self.assertIn(rule, [fault[0] for fault in faults_of(text)])

    def test_plain_code_has_no_faults(self):
        good = '"""Words."""\n\nX = 1\n\n\ndef f(a, b=2):\n    return [c for c in a if c != X] + sorted([b])\n'
        self.assertEqual(faults_of(good), [])


if __name__ == "__main__":
    unittest.main()
