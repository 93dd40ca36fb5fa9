"""Many, not all, of LANGUAGE.md's rules, seen in the package's text; and texts against them that must be found."""

import ast
import builtins
import pathlib
import re
import unittest

PACKAGE = pathlib.Path(__file__).resolve().parent.parent / "leansay"

ERRORS = set("""Exception ValueError TypeError KeyError IndexError LookupError ZeroDivisionError ArithmeticError
    OverflowError RuntimeError NotImplementedError AttributeError StopIteration""".split())
OWN_NAMES = ERRORS | set("""len range enumerate zip min max sum abs sorted reversed int str bool list tuple dict set
    frozenset isinstance ord repr any all divmod""".split())
METHODS = set("""append clear copy count endswith extend find get index insert isalnum isalpha isdigit islower isspace
    isupper items join keys ljust lower lstrip partition pop remove replace reverse rfind rjust rpartition rsplit rstrip
    setdefault split splitlines startswith strip update upper values zfill bit_length""".split())
DUNDERS = set("__init__ __eq__ __repr__ __str__ __len__".split())
WORDS = re.compile(r"\b(type|typing|typing_extensions|enum|Enum|IntEnum|StrEnum|Flag|IntFlag|Generic|Protocol|ABC"
                   r"|ABCMeta|namedtuple|NamedTuple|TypedDict|TYPE_CHECKING|abstractmethod)\b"
                   r"|dataclass|overload|contextmanager")
NOWHERE = set("register mro elements open input version_info with_traceback add_note format format_map args".split())
KEYWORDS = {"sorted": {"key", "reverse"}, "min": {"key", "default"}, "max": {"key", "default"}, "sum": {"start"},
            "enumerate": {"start"}, "zip": {"strict"}}
STATEMENTS = (ast.Assign, ast.AugAssign, ast.If, ast.While, ast.For, ast.Return, ast.Break, ast.Continue, ast.Pass,
              ast.Raise, ast.Try, ast.FunctionDef)
EXPRESSIONS = (ast.BinOp, ast.UnaryOp, ast.BoolOp, ast.Compare, ast.IfExp, ast.Call, ast.Attribute, ast.Subscript,
               ast.Slice, ast.ListComp, ast.List, ast.Tuple, ast.Dict, ast.Set, ast.Constant, ast.Name, ast.Lambda,
               ast.JoinedStr, ast.FormattedValue)


def is_docstring(node):
    return isinstance(node, ast.Expr) and isinstance(node.value, ast.Constant) and isinstance(node.value.value, str)


def is_plain(node):
    if isinstance(node, (ast.List, ast.Tuple)):
        return all(is_plain(part) for part in node.elts)
    if isinstance(node, ast.Dict):
        return all(part is not None and is_plain(part) for part in node.keys + node.values)
    if isinstance(node, ast.UnaryOp):
        return isinstance(node.op, ast.USub) and is_plain(node.operand)
    return isinstance(node, (ast.Constant, ast.Name))


def text_faults(text):
    for number, line in enumerate(text.split("\n"), 1):
        if len(line) > 120:
            yield "L10", number
        if re.search(r"[^ -~]", line):
            yield "L14", number
        if WORDS.search(line):
            yield "L17", number
    if text.count("\n") > 400:
        yield "L10", 400


def top_faults(tree):
    bound = []
    for k, node in enumerate(tree.body):
        if isinstance(node, ast.ImportFrom):
            bound.extend(alias.asname or alias.name for alias in node.names)
            if node.level or not node.module.startswith("leansay.") or "*" in bound:
                yield "L2", node.lineno
        elif isinstance(node, (ast.FunctionDef, ast.ClassDef)):
            bound.append(node.name)
        elif isinstance(node, ast.Assign) and isinstance(node.targets[0], ast.Name) and is_plain(node.value):
            bound.append(node.targets[0].id)
        elif not (k == 0 and is_docstring(node)):
            yield "L3", node.lineno
    if len(bound) != len(set(bound)):
        yield "L15", 1


def class_faults(node):
    if len(node.bases) > 1 or node.keywords or node.decorator_list:
        yield "L5", node.lineno
    names = [part.name for part in node.body if isinstance(part, ast.FunctionDef)]
    if len(names) != len(set(names)):
        yield "L18", node.lineno
    for part in node.body:
        if not isinstance(part, (ast.FunctionDef, ast.Pass)):
            yield "L5", part.lineno
    for name in names:
        if name.startswith("__") and name not in DUNDERS:
            yield "L5", node.lineno


def function_faults(node):
    given = node.args
    if given.vararg or given.kwarg or given.kwonlyargs or given.posonlyargs or node.decorator_list:
        yield "L4", node.lineno
    if not all(is_plain(value) for value in given.defaults):
        yield "L4", node.lineno
    if node.end_lineno - node.lineno + 1 > 40:
        yield "L10", node.lineno


def statement_faults(node):
    if isinstance(node, ast.Expr):
        if not isinstance(node.value, ast.Call):
            yield "L6", node.lineno
    elif not isinstance(node, STATEMENTS):
        yield "L6", node.lineno
    if isinstance(node, ast.Assign) and len(node.targets) != 1:
        yield "L6", node.lineno
    if isinstance(node, (ast.For, ast.While)) and node.orelse:
        yield "L6", node.lineno
    if isinstance(node, ast.Try):
        if node.finalbody:
            yield "L6", node.lineno
        for handler in node.handlers:
            if handler.type is None or getattr(handler.type, "id", "") in ("Exception", "TypeError"):
                yield "L19", handler.lineno


def expression_faults(node):
    if not isinstance(node, EXPRESSIONS):
        yield "L7", node.lineno
    if isinstance(node, ast.Constant):
        if isinstance(node.value, (float, complex, bytes)) or node.value is ...:
            yield "L7", node.lineno
        if isinstance(node.value, str) and "%" in node.value:
            yield "L27", node.lineno
    if isinstance(node, ast.BinOp) and isinstance(node.op, (ast.Div, ast.MatMult)):
        yield "L7", node.lineno
    if isinstance(node, ast.BinOp) and isinstance(node.op, ast.Pow):
        if not (isinstance(node.right, ast.Constant) and node.right.value in range(65)):
            yield "L27", node.lineno
    if isinstance(node, ast.ListComp) and (len(node.generators) != 1 or len(node.generators[0].ifs) > 1):
        yield "L7", node.lineno
    if isinstance(node, ast.FormattedValue) and not (isinstance(node.value, ast.Name) and node.format_spec is None):
        yield "L7", node.lineno
    if isinstance(node, ast.Compare) and any(isinstance(sign, (ast.Is, ast.IsNot)) for sign in node.ops):
        if not isinstance(node.comparators[-1], ast.Constant):
            yield "L20", node.lineno


def call_faults(node, own_methods):
    keywords = {keyword.arg for keyword in node.keywords}
    if isinstance(node.func, ast.Name):
        if node.func.id in OWN_NAMES and keywords - KEYWORDS.get(node.func.id, set()):
            yield "L22", node.lineno
    elif isinstance(node.func, ast.Attribute):
        if node.func.attr not in METHODS | own_methods | DUNDERS:
            yield "L25", node.lineno
        if node.func.attr in METHODS and keywords:
            yield "L22", node.lineno


def name_faults(tree):
    classes = {node.name for node in tree.body if isinstance(node, ast.ClassDef)}
    imports = {alias.asname or alias.name for node in tree.body if isinstance(node, ast.ImportFrom)
               for alias in node.names}
    taken = classes | imports | set(dir(builtins))
    bound = classes | imports | {node.name for node in ast.walk(tree) if isinstance(node, ast.FunctionDef)}
    for node in ast.walk(tree):
        name = getattr(node, "arg", None) if isinstance(node, ast.arg) else None
        if isinstance(node, ast.Name) and isinstance(node.ctx, ast.Store):
            name = node.id
        if isinstance(node, ast.ExceptHandler):
            name = node.name
        if name is not None:
            bound.add(name)
            if name in taken:
                yield "L15", node.lineno
            if not re.fullmatch(r"[A-Za-z][A-Za-z0-9_]*", name):
                yield "L12", node.lineno
        if isinstance(node, ast.Attribute) and (node.attr in NOWHERE or node.attr.startswith("_")):
            if node.attr not in DUNDERS:
                yield "L17", node.lineno
    for node in ast.walk(tree):
        if isinstance(node, ast.Name) and isinstance(node.ctx, ast.Load) and node.id not in bound | OWN_NAMES:
            yield "L8", node.lineno


def defined_in(tree):
    defs = {node.name for node in tree.body if isinstance(node, (ast.FunctionDef, ast.ClassDef))}
    return defs | {node.targets[0].id for node in tree.body if isinstance(node, ast.Assign)}


def methods_of(tree):
    return {part.name for node in tree.body if isinstance(node, ast.ClassDef) for part in node.body
            if isinstance(part, ast.FunctionDef)}


def values_of(tree):
    return {node.attr for node in ast.walk(tree) if isinstance(node, ast.Attribute) and isinstance(node.ctx, ast.Store)}


def faults(text, own_methods):
    tree = ast.parse(text)
    found = list(text_faults(text)) + list(top_faults(tree)) + list(name_faults(tree))
    for node in ast.walk(tree):
        if isinstance(node, ast.ClassDef):
            found.extend(class_faults(node))
        if isinstance(node, ast.FunctionDef):
            found.extend(function_faults(node))
        if isinstance(node, ast.stmt) and node not in tree.body and not isinstance(node, ast.ClassDef):
            found.extend(statement_faults(node))
        if isinstance(node, ast.expr):
            found.extend(expression_faults(node))
        if isinstance(node, ast.Call):
            found.extend(call_faults(node, own_methods))
    return found


class Package(unittest.TestCase):
    def setUp(self):
        self.texts = {path.stem: path.read_text("ascii") for path in sorted(PACKAGE.glob("*.py"))}
        self.trees = {name: ast.parse(text) for name, text in self.texts.items()}

    def test_files(self):
        for path in PACKAGE.iterdir():
            if path.name != "__pycache__":
                self.assertRegex(path.name, r"^(__init__|__main__|[a-z][a-z0-9_]*)\.py$")
        self.assertIn("__init__", self.texts)

    def test_rules(self):
        own_methods = set().union(*[methods_of(tree) for tree in self.trees.values()])
        for name, text in self.texts.items():
            with self.subTest(name):
                self.assertEqual(faults(text, own_methods), [])

    def test_no_name_is_a_method_and_a_value(self):
        methods = set().union(*[methods_of(tree) for tree in self.trees.values()])
        values = set().union(*[values_of(tree) for tree in self.trees.values()])
        self.assertEqual(methods & values, set())

    def test_imports_are_drawn_from_the_file_that_defines_and_in_no_circle(self):
        drawn = {}
        for name, tree in self.trees.items():
            rows = [node for node in tree.body if isinstance(node, ast.ImportFrom)]
            drawn[name] = {row.module.partition(".")[2] for row in rows}
            for row in rows:
                defined = defined_in(self.trees[row.module.partition(".")[2]])
                self.assertLessEqual({alias.name for alias in row.names}, defined, name)
        while drawn:
            ready = [name for name in drawn if not drawn[name] & set(drawn)]
            self.assertTrue(ready, "these draw from one another: " + " ".join(drawn))
            drawn = {name: drawn[name] for name in drawn if name not in ready}


class Finder(unittest.TestCase):
    def test_what_is_against_the_rules_is_found(self):
        for rule, text in (
            ("L2", "from os import path"), ("L3", "a = len([])"), ("L4", "def a(*b):\n    return b"),
            ("L5", "class A:\n    b = 1"), ("L6", "def a():\n    assert 1"), ("L6", "def a():\n    'why'"),
            ("L6", "def a(b):\n    c = d = b\n    return c"), ("L7", "def a(b):\n    return b / 2"),
            ("L7", "def a(b):\n    return any(c for c in b)"), ("L8", "def a(b):\n    return hash(b)"),
            ("L10", "def a():\n" + "    pass\n" * 40), ("L12", "def a():\n    _ = 1"), ("L15", "def a(min):\n    pass"),
            ("L15", "def a():\n    pass\ndef a():\n    pass"), ("L17", "# the type of it"),
            ("L19", "def a():\n    try:\n        pass\n    except TypeError:\n        pass"),
            ("L20", "def a(b, c):\n    return b is c"), ("L22", "def a(b):\n    return list(b, key=1)"),
            ("L25", "def a(b):\n    b.sort()"), ("L27", "def a(b):\n    return 2 ** b"),
        ):
            with self.subTest(text):
                self.assertIn(rule, [found for found, line in faults(text, set())])


if __name__ == "__main__":
    unittest.main()
