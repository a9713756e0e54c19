"""A simple check that the package keeps to ../shared/LANGUAGE.md, where that can be seen rule by rule."""

import ast
import builtins
import pathlib
import re
import unittest

PACKAGE = pathlib.Path(__file__).resolve().parent.parent / "outlivers"

OWN_NAMES = set(
    "len range enumerate zip min max sum abs sorted reversed int str bool bytes list tuple dict set frozenset "
    "isinstance ord repr any all divmod Exception ValueError TypeError KeyError IndexError LookupError "
    "ZeroDivisionError ArithmeticError OverflowError RuntimeError NotImplementedError AttributeError "
    "StopIteration".split()
)
PYTHON_METHODS = set(
    "append clear copy count endswith extend find get index insert isalnum isalpha isdigit islower isspace isupper "
    "items join keys ljust lower lstrip partition pop remove replace reverse rfind rjust rpartition rsplit rstrip "
    "setdefault split splitlines startswith strip update upper values zfill bit_length title capitalize swapcase "
    "casefold center expandtabs removeprefix removesuffix rindex isascii isdecimal isnumeric istitle isidentifier "
    "isprintable encode decode hex fromhex to_bytes from_bytes translate maketrans sort add discard __init__".split()
)
PYTHON_ATTRIBUTES = {name for kind in (str, int, list, tuple, dict, set, bytes) for name in dir(kind)} | {"args"}
FREE_VALUES = set("count index title find get join lower upper split strip copy add".split())
DUNDERS = set("__init__ __eq__ __repr__ __str__ __len__".split())
UNUSED_NAMES = set(
    "register mro elements open input version_info with_traceback add_note format format_map attrgetter breakpoint "
    "builtins compile copyright credits delattr dir eval exec exit gc getattr globals hasattr help id importlib "
    "license locals methodcaller os quit setattr super vars sys".split()
)
UNUSED_WORDS = re.compile(
    r"\b(type|typing|typing_extensions|enum|Enum|IntEnum|StrEnum|Flag|IntFlag|Generic|Protocol|ABC|ABCMeta|namedtuple"
    r"|NamedTuple|TypedDict|TYPE_CHECKING|abstractmethod)\b|dataclass|overload|contextmanager"
)
FORBIDDEN = {
    ast.With: "L6", ast.Match: "L6", ast.Global: "L6", ast.Nonlocal: "L6", ast.Yield: "L6", ast.YieldFrom: "L6",
    ast.AsyncFunctionDef: "L6", ast.AsyncFor: "L6", ast.AsyncWith: "L6", ast.Await: "L6", ast.TryStar: "L6",
    ast.Div: "L7", ast.GeneratorExp: "L7", ast.NamedExpr: "L7", ast.MatMult: "L7", ast.Import: "L16",
}
WALKED = set("zip enumerate reversed range items keys values".split())
CHANGES = set("append clear extend insert pop remove reverse setdefault update sort".split())
PLAIN_TOP = (ast.FunctionDef, ast.ClassDef, ast.ImportFrom, ast.Assign, ast.AnnAssign)
ESCAPES = re.compile(r"(?<!\\)(?:\\\\)*\\[^n\\'\"tx\n]")


def text_faults(text):
    """Faults that are seen row by row."""
    found = []
    rows = text.split("\n")
    if len(rows) - (rows[-1] == "") > 400:
        found.append(("L10", 401))
    for at, row in enumerate(rows, start=1):
        if len(row) > 120:
            found.append(("L10", at))
        if any(not " " <= sign <= "~" for sign in row):
            found.append(("L14", at))
        if UNUSED_WORDS.search(row):
            found.append(("L17", at))
        if ESCAPES.search(row):
            found.append(("L27", at))
    return found


def is_docstring(node):
    return isinstance(node, ast.Expr) and isinstance(node.value, ast.Constant) and isinstance(node.value.value, str)


def names_bound(node):
    """The names that one node gives a meaning to."""
    if isinstance(node, (ast.FunctionDef, ast.ClassDef)):
        return [node.name]
    if isinstance(node, ast.Name) and isinstance(node.ctx, ast.Store):
        return [node.id]
    if isinstance(node, ast.arg):
        return [node.arg]
    if isinstance(node, ast.ImportFrom):
        return [one.asname or one.name for one in node.names]
    if isinstance(node, ast.ExceptHandler) and node.name:
        return [node.name]
    return []


def name_fault(name):
    if name in DUNDERS:
        return None
    if name in UNUSED_NAMES:
        return "L17"
    if hasattr(builtins, name):
        return "L15"
    return None if re.fullmatch("[A-Za-z][A-Za-z0-9_]*", name) else "L12"


def def_fault(node):
    given = node.args
    if given.vararg or given.kwarg or given.posonlyargs or getattr(node, "decorator_list", None):
        return "L4"
    if isinstance(node, ast.FunctionDef) and node.end_lineno - node.lineno + 1 > 40:
        return "L10"
    return None


def class_fault(node):
    if len(node.bases) > 1 or node.keywords or node.decorator_list:
        return "L5"
    for row in node.body:
        if isinstance(row, ast.FunctionDef):
            if row.name.startswith("_") and row.name not in DUNDERS:
                return "L5"
        elif not is_docstring(row) and not isinstance(row, ast.Pass):
            return "L5"
    return None


def is_singleton(node):
    return isinstance(node, ast.Constant) and (node.value is None or node.value is True or node.value is False)


def compare_fault(node):
    things = [node.left] + node.comparators
    for at, sign in enumerate(node.ops):
        if isinstance(sign, (ast.Is, ast.IsNot)) and not (is_singleton(things[at]) or is_singleton(things[at + 1])):
            return "L20"
    return None


def handler_fault(node):
    if node.type is None:
        return "L6"
    named = {one.id for one in ast.walk(node.type) if isinstance(one, ast.Name)}
    return "L19" if named & {"Exception", "TypeError"} else None


def constant_fault(node):
    if isinstance(node.value, (float, complex)):
        return "L7"
    if isinstance(node.value, str) and "%" in node.value:
        return "L27"
    return None


def node_fault(node):
    """The rule that one node breaks by itself, or None."""
    if isinstance(node, (ast.FunctionDef, ast.Lambda)):
        return def_fault(node)
    if isinstance(node, ast.ClassDef):
        return class_fault(node)
    if isinstance(node, ast.Compare):
        return compare_fault(node)
    if isinstance(node, ast.ExceptHandler):
        return handler_fault(node)
    if isinstance(node, ast.Constant):
        return constant_fault(node)
    if isinstance(node, (ast.For, ast.While)) and node.orelse:
        return "L6"
    if isinstance(node, ast.Starred) and isinstance(node.ctx, ast.Load):
        return "L7"
    if isinstance(node, ast.FormattedValue) and node.format_spec:
        return "L7"
    if isinstance(node, ast.Name) and isinstance(node.ctx, ast.Load):
        return "L8" if hasattr(builtins, node.id) and node.id not in OWN_NAMES else None
    if isinstance(node, ast.Attribute):
        return "L8" if node.attr.startswith("_") and node.attr not in DUNDERS else None
    return FORBIDDEN.get(type(node))


def called(node):
    """The name by which something is called, or None."""
    if not isinstance(node, ast.Call):
        return None
    return getattr(node.func, "id", None) or getattr(node.func, "attr", None)


def walked_things(node):
    """What a loop or a comprehension walks."""
    if isinstance(node, ast.For):
        return [node.iter]
    return [one.iter for one in getattr(node, "generators", [])]


def walked_names(thing):
    """The names of what is walked, itself or through enumerate, zip, reversed, items and their like."""
    if isinstance(thing, ast.Name):
        return {thing.id}
    if called(thing) not in WALKED - {"range"}:
        return set()
    inner = thing.args if isinstance(thing.func, ast.Name) else [thing.func.value]
    return {name for one in inner for name in walked_names(one)}


def changed_name(node):
    """The name of the list or dict that one node changes, or None."""
    thing = None
    if called(node) in CHANGES and isinstance(node.func, ast.Attribute):
        thing = node.func.value
    if isinstance(node, ast.Subscript) and not isinstance(node.ctx, ast.Load):
        thing = node.value
    return thing.id if isinstance(thing, ast.Name) else None


def walk_fault(node):
    """What is walked in another way than it may be, or kept in place of being walked."""
    if isinstance(node, (ast.Assign, ast.Return)) and called(node.value) in WALKED:
        return "L23"
    things = walked_things(node)
    if any(isinstance(one, (ast.Set, ast.SetComp)) or called(one) == "set" for one in things):
        return "L24"
    names = {name for thing in things for name in walked_names(thing)}
    inner = [one for row in getattr(node, "body", []) for one in ast.walk(row)] if isinstance(node, ast.For) else []
    return "L23" if any(changed_name(one) in names for one in inner) else None


def power_fault(node):
    if not (isinstance(node, ast.BinOp) and isinstance(node.op, ast.Pow)):
        return None
    written = isinstance(node.right, ast.Constant) and type(node.right.value) is int
    return None if written and 0 <= node.right.value <= 64 else "L27"


def clash_faults(tree):
    """Names within defs that are called like an import or a class of the file."""
    rows = [node for node in tree.body if isinstance(node, (ast.ImportFrom, ast.ClassDef))]
    tops = {name for node in rows for name in names_bound(node)}
    defs = [node for node in ast.walk(tree) if isinstance(node, (ast.FunctionDef, ast.Lambda))]
    inner = [one for node in defs for one in ast.walk(node) if one is not node]
    return [("L15", getattr(one, "lineno", 0)) for one in inner if set(names_bound(one)) & tops]


def import_fault(node, package):
    if node.module == "__future__":
        return None
    if node.level or node.module not in package or any(one.name == "*" for one in node.names):
        return "L2"
    return None if all(one.name in package[node.module] for one in node.names) else "L16"


def top_faults(tree, package):
    found = []
    seen = set()
    for node in tree.body:
        if not is_docstring(node) and not isinstance(node, PLAIN_TOP):
            found.append(("L3", node.lineno))
        if isinstance(node, ast.ImportFrom) and import_fault(node, package):
            found.append((import_fault(node, package), node.lineno))
        for name in top_names(node):
            if name in seen:
                found.append(("L15", node.lineno))
            seen.add(name)
    inner = [one for row in tree.body for one in ast.walk(row) if one is not row]
    for node in inner:
        if isinstance(node, ast.ImportFrom):
            found.append(("L2", node.lineno))
        if isinstance(node, ast.ClassDef):
            found.append(("L15", node.lineno))
    return found


def top_names(node):
    if isinstance(node, (ast.Assign, ast.AnnAssign)):
        return [name for one in ast.walk(node) for name in names_bound(one)]
    return names_bound(node)


def faults(text, package, methods=()):
    """Pairs (rule, row) of a file, package telling what each module defines, methods those of its own classes."""
    tree = ast.parse(text)
    found = text_faults(text) + top_faults(tree, package) + clash_faults(tree)
    for node in ast.walk(tree):
        rules = [node_fault(node), walk_fault(node), power_fault(node)]
        rules.extend(name_fault(name) for name in names_bound(node))
        if isinstance(node, ast.Call) and isinstance(node.func, ast.Attribute):
            known = node.func.attr in PYTHON_METHODS or node.func.attr in methods
            rules.append(None if known else "L25")
        # A sign such as `/` is a node of its own, without a row.
        found.extend((rule, getattr(node, "lineno", 0)) for rule in rules if rule)
    return sorted(set(found))


def defined(text):
    """The names that a file defines itself at its top."""
    return {name for node in ast.parse(text).body if not isinstance(node, ast.ImportFrom) for name in top_names(node)}


def methods_of(text):
    classes = [node for node in ast.parse(text).body if isinstance(node, ast.ClassDef)]
    return {row.name for one in classes for row in one.body if isinstance(row, ast.FunctionDef)}


def values_of(text):
    """The names of the values that are given to objects."""
    nodes = [node for node in ast.walk(ast.parse(text)) if isinstance(node, ast.Attribute)]
    return {node.attr for node in nodes if isinstance(node.ctx, ast.Store)}


def asked_of(text):
    """The names of the values that are asked of things."""
    nodes = list(ast.walk(ast.parse(text)))
    methods = {id(node.func) for node in nodes if isinstance(node, ast.Call)}
    return {node.attr for node in nodes if isinstance(node, ast.Attribute) and id(node) not in methods}


def own_faults(texts):
    """Faults in how the methods and values of all classes of the package are called, pairs (rule, name)."""
    methods = {name for text in texts for name in methods_of(text)}
    values = {name for text in texts for name in values_of(text)}
    found = [("L18", name) for name in methods & values]
    found += [("L18", name) for text in texts for name in asked_of(text) - values]
    found += [("L26", name) for name in methods & PYTHON_ATTRIBUTES - PYTHON_METHODS]
    found += [("L26", name) for name in values & PYTHON_ATTRIBUTES - FREE_VALUES]
    return sorted(set(found))


def drawn(text):
    return {node.module for node in ast.parse(text).body if isinstance(node, ast.ImportFrom)}


def module_name(path):
    inner = path.relative_to(PACKAGE.parent).with_suffix("")
    return ".".join(part for part in inner.parts if part != "__init__")


def sources():
    return {module_name(path): path.read_text("utf-8") for path in sorted(PACKAGE.rglob("*.py"))}


class TestPackage(unittest.TestCase):
    def test_only_plain_files_lie_in_it(self):
        paths = [path for path in PACKAGE.rglob("*") if path.is_file() and path.parent.name != "__pycache__"]
        self.assertIn(PACKAGE / "__init__.py", paths)
        self.assertLessEqual(len(paths), 100)
        for path in paths:
            with self.subTest(path.name):
                self.assertRegex(path.name, r"\A(__init__|__main__|[a-z][a-z0-9_]*)\.py\Z")
                self.assertFalse(path.name.startswith("test"))

    def test_every_file_keeps_to_the_rules(self):
        texts = sources()
        package = {name: defined(text) for name, text in texts.items()}
        methods = {name for text in texts.values() for name in methods_of(text)}
        for name, text in texts.items():
            with self.subTest(name):
                self.assertEqual(faults(text, package, methods), [])

    def test_methods_and_values_are_called_as_they_may(self):
        self.assertEqual(own_faults(sources().values()), [])

    def test_no_two_files_draw_from_one_another(self):
        left = {name: drawn(text) & set(sources()) for name, text in sources().items()}
        while left:
            free = [name for name, others in left.items() if not others & set(left)]
            self.assertTrue(free, f"these draw from one another: {sorted(left)}")
            left = {name: others for name, others in left.items() if name not in free}


WRONG = (
    ("L2", "from math import gcd"),
    ("L2", "from .errors import Dead"),
    ("L2", "from outlivers.errors import *"),
    ("L2", "def told():\n    from outlivers.errors import Dead\n    return Dead"),
    ("L3", "if True:\n    LIMIT = 1"),
    ("L3", "print(1)"),
    ("L4", "def told(*things):\n    return things"),
    ("L4", "def told(**things):\n    return things"),
    ("L4", "def told(a, /):\n    return a"),
    ("L5", "class Box:\n    many = 1"),
    ("L5", "class Box:\n    def __add__(self, other):\n        return 1"),
    ("L6", "def told(a):\n    with a:\n        return 1"),
    ("L6", "def told(a):\n    yield a"),
    ("L6", "def told(a):\n    for k in a:\n        pass\n    else:\n        return 1"),
    ("L6", "def told(a):\n    try:\n        return a[0]\n    except:\n        return 1"),
    ("L7", "def told(a):\n    return a / 2"),
    ("L7", "HALF = 0.5"),
    ("L7", "def told(a):\n    return sum(k for k in a)"),
    ("L7", "def told(a):\n    return max(*a)"),
    ("L7", "def told(a):\n    return (b := a)"),
    ("L7", "def told(a):\n    return f'{a:>3}'"),
    ("L8", "def told(a):\n    return pow(a, 2)"),
    ("L8", "def told(a):\n    return chr(a)"),
    ("L8", "def told(a):\n    return a.__class__"),
    ("L10", "LONG = '" + "a" * 120 + "'"),
    ("L10", "def told(a):\n" + "    a += 1\n" * 39 + "    return a"),
    ("L10", "# row\n" * 401),
    ("L12", "def told(_a):\n    return 1"),
    ("L14", "# caf\u00e9"),
    ("L14", "def told():\n\treturn 1"),
    ("L15", "LIMIT = 1\nLIMIT = 2"),
    ("L15", "def told(hash):\n    return hash"),
    ("L15", "def told():\n    class Box:\n        pass\n    return Box()"),
    ("L15", "from outlivers.errors import Dead\ndef told(Dead):\n    return Dead"),
    ("L15", "from outlivers.errors import Dead\ndef told(a):\n    Dead = a\n    return Dead"),
    ("L15", "class Box:\n    pass\ndef told(a):\n    return [Box for Box in a]"),
    ("L16", "import outlivers.errors"),
    ("L16", "from outlivers.errors import Nobody"),
    ("L17", "# what type it is"),
    ("L17", "def told(id):\n    return 1"),
    ("L19", "def told(a):\n    try:\n        return a[0]\n    except Exception:\n        return 1"),
    ("L20", "def told(a, b):\n    return a is b"),
    ("L23", "def told(a):\n    return zip(a, a)"),
    ("L23", "def told(a):\n    rows = a.items()\n    return len(rows)"),
    ("L23", "def told(a):\n    for k in a:\n        a.append(k)"),
    ("L23", "def told(a):\n    for k, b in enumerate(a):\n        a[k] = b + 1"),
    ("L23", "def told(a):\n    for k, b in a.items():\n        if k:\n            a[k] += 1"),
    ("L24", "def told(a):\n    return [k for k in set(a)]"),
    ("L24", "def told(a, b):\n    for k in {a, b}:\n        return k"),
    ("L25", "def told(a):\n    return a.bit_count()"),
    ("L27", "def told(a):\n    return 2 ** a"),
    ("L27", "PART = 'a % of it'"),
    ("L27", "SIGN = '\\u0041'"),
)

RIGHT = (
    '"""Words."""\n\nfrom outlivers.errors import Dead\n\nLIMIT = 40\n\n\ndef told(a, *, b=2):\n    """Words."""\n'
    '    if a is None:\n        raise Dead("no")\n    first, *rest = [k % 2 for k in a]\n    return f"{first}\\n{b}"\n'
)


class TestCheck(unittest.TestCase):
    """A check that finds nothing is worth something only where it finds what is wrong."""

    package = {"outlivers.errors": {"Dead"}}

    def test_what_is_wrong_is_found(self):
        for rule, text in WRONG:
            with self.subTest(rule=rule, text=text[:60]):
                self.assertIn(rule, [found for found, row in faults(text, self.package)])

    def test_wrong_names_of_methods_and_values_are_found(self):
        box = "class Box:\n    def __init__(self):\n        self.{0} = 1\n    def {1}(self):\n        return self.{2}\n"
        for value, method, asked, looked_for in (
            ("many", "told", "many", []), ("count", "join", "count", []), ("many", "many", "many", [("L18", "many")]),
            ("many", "told", "much", [("L18", "much")]), ("items", "told", "items", [("L26", "items")]),
            ("real", "told", "real", [("L26", "real")]), ("many", "union", "many", [("L26", "union")]),
        ):
            with self.subTest(value=value, method=method, asked=asked):
                self.assertEqual(own_faults([box.format(value, method, asked)]), looked_for)
        clash = ["class Box:\n    def told(self):\n        return 1\n", "def told(box):\n    box.told = 1\n"]
        self.assertEqual(own_faults(clash), [("L18", "told")])

    def test_what_is_right_is_let_be(self):
        self.assertEqual(faults(RIGHT, self.package), [])

    def test_what_is_changed_beside_a_walk_is_let_be(self):
        for walked in ("list(a)", "range(len(a))", "enumerate(list(a))", "b", "b[a]"):
            text = f"def told(a, b):\n    for k in {walked}:\n        a[k] = 1\n    return sorted(set(a))\n"
            with self.subTest(walked):
                self.assertEqual(faults(text, self.package), [])

    def test_the_bounds_themselves_are_let_be(self):
        longest = "LONG = '" + "a" * 111 + "'"
        self.assertEqual(len(longest), 120)
        self.assertEqual(faults(longest, self.package), [])
        self.assertEqual(faults("def told(a):\n" + "    a += 1\n" * 38 + "    return a\n", self.package), [])
        self.assertEqual(faults("# row\n" * 400, self.package), [])


if __name__ == "__main__":
    unittest.main()
