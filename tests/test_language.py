"""Looks over the package's files for what can be seen of the rules of the language it keeps to."""

import ast
import builtins
import pathlib
import re
import unittest

PACKAGE = pathlib.Path(__file__).resolve().parent.parent / "aheadmill"
FILES = sorted(PACKAGE.glob("*.py"))

OWN_NAMES = set("""len range enumerate zip min max sum abs sorted reversed int str bool list tuple dict set frozenset
    isinstance ord repr any all divmod Exception ValueError TypeError KeyError IndexError LookupError
    ZeroDivisionError ArithmeticError OverflowError RuntimeError NotImplementedError AttributeError
    StopIteration""".split())
OWN_METHODS = set("""append clear copy count endswith extend find get index insert isalnum isalpha isdigit islower
    isspace isupper items join keys ljust lower lstrip partition pop remove replace reverse rfind rjust rpartition
    rsplit rstrip setdefault split splitlines startswith strip update upper values zfill bit_length""".split())
TAKEN_NAMES = {name for value in ("", 0, [], {}, set(), b"") for name in dir(value) if not name.startswith("_")}
OWN_VALUES = set("count index title find get join lower upper split strip copy add".split())
DUNDERS = {"__init__", "__eq__", "__repr__", "__str__", "__len__"}
OUT_WORDS = re.compile(r"\b(type|typing|typing_extensions|enum|Enum|IntEnum|StrEnum|Flag|IntFlag|Generic|Protocol|ABC"
                       r"|ABCMeta|namedtuple|NamedTuple|TypedDict|TYPE_CHECKING|abstractmethod)\b"
                       r"|dataclass|overload|contextmanager")
STATEMENTS = (ast.FunctionDef, ast.ClassDef, ast.Assign, ast.AugAssign, ast.If, ast.While, ast.For, ast.Return,
              ast.Break, ast.Continue, ast.Pass, ast.Raise, ast.Try, ast.Expr, ast.ImportFrom)
OUT_EXPRESSIONS = (ast.SetComp, ast.DictComp, ast.GeneratorExp, ast.NamedExpr, ast.Starred, ast.Await, ast.Yield,
                   ast.YieldFrom, ast.Div, ast.MatMult)


def faults_of_text(text):
    told = []
    for number, line in enumerate(text.split("\n"), 1):
        if len(line) > 120:
            told.append((number, "L10 long line"))
        if re.search(r"[^ -~]", line):
            told.append((number, "L14 sign"))
        if OUT_WORDS.search(line):
            told.append((number, "L17 word"))
    if text.count("\n") > 400:
        told.append((400, "L10 long file"))
    return told


def defined_in(path):
    tree = ast.parse(path.read_text())
    told = {node.name for node in tree.body if isinstance(node, (ast.FunctionDef, ast.ClassDef))}
    return told | {node.targets[0].id for node in tree.body if isinstance(node, ast.Assign)}


def drawn_by(path):
    return [node for node in ast.parse(path.read_text()).body if isinstance(node, ast.ImportFrom)]


def fault_of_import(node):
    parts = (node.module or "").split(".")
    if node.level or len(parts) != 2 or parts[0] != "aheadmill":
        return "L2 import"
    path = PACKAGE / (parts[1] + ".py")
    if not path.exists() or {alias.name for alias in node.names} - defined_in(path):
        return "L16 import"
    return None


def fault_of_def(node):
    parameters = node.args
    if parameters.vararg or parameters.kwarg or parameters.kwonlyargs or parameters.posonlyargs:
        return "L4 parameters"
    if node.decorator_list:
        return "L4 decorator"
    if node.end_lineno - node.lineno >= 40:
        return "L10 long function"
    if node.name.startswith("_") and node.name not in DUNDERS:
        return "L12 name"
    if any(arg.arg in dir(builtins) or arg.arg.startswith("_") for arg in parameters.args):
        return "L15 parameter"
    return None


def fault_of_class(node):
    if node.decorator_list or node.keywords or len(node.bases) > 1:
        return "L5 class"
    if any(not isinstance(part, (ast.FunctionDef, ast.Pass)) for part in node.body):
        return "L5 class body"
    return None


def fault_of_name(node):
    if node.id.startswith("_"):
        return "L12 name"
    if isinstance(node.ctx, ast.Store) and node.id in dir(builtins):
        return "L15 name"
    if node.id in dir(builtins) and node.id not in OWN_NAMES:
        return "L8 name"
    return None


def fault_of_constant(node):
    if isinstance(node.value, (float, bytes, complex)) or node.value is Ellipsis:
        return "L7 value"
    if isinstance(node.value, str) and "%" in node.value:
        return "L27 text"
    return None


def fault_of_compare(node):
    for mark, value in zip(node.ops, node.comparators):
        plain = isinstance(value, ast.Constant) and (value.value is None or isinstance(value.value, bool))
        if isinstance(mark, (ast.Is, ast.IsNot)) and not plain:
            return "L20 is"
    return None


def fault_of_statement(node):
    if not isinstance(node, STATEMENTS):
        return "L6 statement"
    if isinstance(node, ast.Assign) and len(node.targets) > 1:
        return "L6 targets"
    if isinstance(node, (ast.For, ast.While)) and node.orelse:
        return "L6 else"
    if isinstance(node, ast.Try) and node.finalbody:
        return "L6 finally"
    return None


def fault_of_node(node, methods):
    if isinstance(node, ast.ImportFrom):
        return fault_of_import(node)
    if isinstance(node, ast.FunctionDef):
        return fault_of_def(node)
    if isinstance(node, ast.ClassDef):
        return fault_of_class(node)
    if isinstance(node, ast.Name):
        return fault_of_name(node)
    if isinstance(node, ast.Constant):
        return fault_of_constant(node)
    if isinstance(node, ast.Compare):
        return fault_of_compare(node)
    if isinstance(node, ast.stmt):
        return fault_of_statement(node)
    if isinstance(node, OUT_EXPRESSIONS):
        return "L7 expression"
    if isinstance(node, ast.Attribute) and isinstance(node.ctx, ast.Store) and not isinstance(node.value, ast.Name):
        return "L18 value"
    if isinstance(node, ast.Call) and isinstance(node.func, ast.Attribute):
        return None if node.func.attr in OWN_METHODS | methods else "L25 method"
    return None


def classes_in(trees):
    return [node for tree in trees for node in tree.body if isinstance(node, ast.ClassDef)]


def methods_in(trees):
    return {part.name for node in classes_in(trees) for part in node.body if isinstance(part, ast.FunctionDef)}


def values_in(trees):
    nodes = [node for tree in trees for node in ast.walk(tree) if isinstance(node, ast.Attribute)]
    return {node.attr for node in nodes if isinstance(node.ctx, ast.Store)}


def faults_of_own_names(trees):
    methods = methods_in(trees)
    values = values_in(trees)
    told = [(name, "L18 method and value") for name in methods & values]
    told += [(name, "L26 value") for name in values & TAKEN_NAMES - OWN_VALUES]
    told += [(name, "L26 method") for name in methods & TAKEN_NAMES - OWN_METHODS - DUNDERS - {"add", "discard"}]
    for node in classes_in(trees):
        names = [part.name for part in node.body if isinstance(part, ast.FunctionDef)]
        told += [(node.name, "L18 method twice") for name in set(names) if names.count(name) > 1]
    return told


# Where a class may stand: called, as a base, by isinstance, except and raise, and ahead of __init__.
def class_places(tree):
    told = []
    for node in ast.walk(tree):
        if isinstance(node, ast.ClassDef):
            told += node.bases
        elif isinstance(node, ast.Call):
            told.append(node.func)
            if isinstance(node.func, ast.Name) and node.func.id == "isinstance":
                told += list(ast.walk(node.args[1]))
        elif isinstance(node, ast.ExceptHandler):
            told += list(ast.walk(node.type))
        elif isinstance(node, ast.Attribute) and node.attr == "__init__":
            told.append(node.value)
    return told


def faults_of_classes(tree, classes):
    allowed = class_places(tree)
    names = [node for node in ast.walk(tree) if isinstance(node, ast.Name) and node.id in classes]
    return [(node.lineno, "L18 class " + node.id) for node in names if node not in allowed]


# Locals and parameters that bear the name of a class or of an import of the file.
def faults_of_locals(tree):
    tops = {node.name for node in tree.body if isinstance(node, ast.ClassDef)}
    tops |= {alias.name for node in tree.body if isinstance(node, ast.ImportFrom) for alias in node.names}
    told = []
    for node in ast.walk(tree):
        if isinstance(node, ast.arg) and node.arg in tops:
            told.append((node.lineno, "L15 parameter " + node.arg))
        if isinstance(node, ast.Name) and isinstance(node.ctx, ast.Store) and node.id in tops:
            told.append((node.lineno, "L15 local " + node.id))
    return told


KEYWORDS = {"sorted": {"key", "reverse"}, "min": {"key", "default"}, "max": {"key", "default"}, "sum": {"start"},
            "enumerate": {"start"}, "zip": {"strict"}}
WALKED = ("zip", "enumerate", "reversed", "range")


def faults_of_calls(tree):
    calls = [node for node in ast.walk(tree) if isinstance(node, ast.Call)]
    named = [node for node in calls if isinstance(node.func, ast.Name) and node.func.id in OWN_NAMES]
    told = [(node.lineno, "L22 keyword") for node in named
            if {keyword.arg for keyword in node.keywords} - KEYWORDS.get(node.func.id, set())]
    kept = [node.value for node in ast.walk(tree) if isinstance(node, (ast.Assign, ast.Return))]
    told += [(node.lineno, "L23 kept") for node in named if node.func.id in WALKED and node in kept]
    told += [(node.lineno, "L24 kept") for node in named if node.func.id in ("set", "frozenset") and node in kept]
    return told


def faults_of_tree(tree, methods):
    found = [(getattr(node, "lineno", 0), fault_of_node(node, methods)) for node in ast.walk(tree)]
    tops = [node.targets[0].id for node in tree.body if isinstance(node, ast.Assign)]
    found += [(0, "L15 bound twice " + name) for name in tops if tops.count(name) > 1]
    return [(line, fault) for line, fault in found if fault is not None]


class Language(unittest.TestCase):
    def test_the_folder_holds_plain_files_alone(self):
        names = [path.name for path in PACKAGE.iterdir() if path.name != "__pycache__"]
        self.assertIn("__init__.py", names)
        for name in names:
            self.assertRegex(name, r"^(__init__|__main__|[a-z][a-z0-9_]*)\.py$")

    def test_texts_of_the_files(self):
        for path in FILES:
            with self.subTest(path=path.name):
                self.assertEqual(faults_of_text(path.read_text()), [])

    def test_trees_of_the_files(self):
        trees = [ast.parse(path.read_text()) for path in FILES]
        methods = methods_in(trees)
        classes = {node.name for node in classes_in(trees)}
        self.assertEqual(faults_of_own_names(trees), [])
        for path, tree in zip(FILES, trees):
            with self.subTest(path=path.name):
                self.assertEqual(faults_of_tree(tree, methods), [])
                self.assertEqual(faults_of_classes(tree, classes), [])
                self.assertEqual(faults_of_locals(tree), [])
                self.assertEqual(faults_of_calls(tree), [])

    def test_no_two_files_draw_from_one_another(self):
        drawn = {path.stem: [node.module.split(".")[1] for node in drawn_by(path)] for path in FILES}
        left = dict(drawn)
        while left:
            free = [name for name in left if not any(other in left for other in left[name])]
            self.assertTrue(free, left)
            for name in free:
                left.pop(name)

    def test_the_look_sees_faults(self):
        for text in ("import os", "x = 1.5", "def f(*a):\n    pass", "x = y = 1", "def f(type):\n    pass",
                     "def f(x):\n    return eval(x)", "def f(x):\n    return x.sort()", "x = {k for k in y}",
                     "def f(x):\n    return x is 1", "with x:\n    pass", "x = 1\nx = 2", "x = 'a%b'",
                     "def f(x):\n    x.one.other = 1", "def f(x):\n    x.one.other += 1"):
            with self.subTest(text=text):
                self.assertNotEqual(faults_of_tree(ast.parse(text), set()), [])

    def test_the_look_sees_faults_of_names(self):
        method = "class A:\n    def one(self):\n        pass\n"
        for text in (method + "def f(x):\n    x.one = 1", "def f(x):\n    x.items = 1", method.replace("one", "sort"),
                     method + "    def one(self):\n        pass"):
            with self.subTest(text=text):
                self.assertNotEqual(faults_of_own_names([ast.parse(text)]), [])
        for text in ("def f(x):\n    return x(A)", "x = [A]", "def f(x):\n    return A.one(x)"):
            with self.subTest(text=text):
                self.assertNotEqual(faults_of_classes(ast.parse(text), {"A"}), [])
        for text in ("class A(B):\n    def __init__(self):\n        B.__init__(self)", "def f(x):\n    raise A(x)",
                     "def f(x):\n    return isinstance(x, (A, int))", "try:\n    f()\nexcept A:\n    pass"):
            with self.subTest(text=text):
                self.assertEqual(faults_of_classes(ast.parse(text), {"A", "B"}), [])
        for text in ("from aheadmill.words import worked\ndef f(worked):\n    pass",
                     "from aheadmill.words import worked\ndef f(x):\n    worked = x", method + "def f(A):\n    pass"):
            with self.subTest(text=text):
                self.assertNotEqual(faults_of_locals(ast.parse(text)), [])
        for text in ("x = zip(y, z)", "def f(x):\n    return set(x)", "def f(x):\n    return sorted(x, cmp=f)"):
            with self.subTest(text=text):
                self.assertNotEqual(faults_of_calls(ast.parse(text)), [])


if __name__ == "__main__":
    unittest.main()
