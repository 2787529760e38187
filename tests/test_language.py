"""The package keeps the rules of the language that can be seen file by file."""

import ast
import builtins
import pathlib
import re
import unittest

PACKAGE = pathlib.Path(__file__).resolve().parent.parent / "gridshares"
FILES = sorted(PACKAGE.glob("*.py"))

BUILTINS = set(
    "len range enumerate zip min max sum abs sorted reversed int str bool bytes list tuple dict set frozenset isinstance"
    " ord repr any all divmod Exception ValueError TypeError KeyError IndexError LookupError ZeroDivisionError"
    " ArithmeticError OverflowError RuntimeError NotImplementedError AttributeError StopIteration NotImplemented".split()
)
METHODS = set(
    "append clear copy count endswith extend find get index insert isalnum isalpha isdigit islower isspace isupper items"
    " join keys ljust lower lstrip partition pop remove replace reverse rfind rjust rpartition rsplit rstrip setdefault"
    " split splitlines startswith strip update upper values zfill bit_length sort add discard title capitalize swapcase"
    " casefold center expandtabs removeprefix removesuffix rindex isascii isdecimal isnumeric istitle isidentifier"
    " isprintable".split()
)
WORDS = (
    r"\b(type|typing|typing_extensions|enum|Enum|IntEnum|StrEnum|Flag|IntFlag|Generic|Protocol|ABC|ABCMeta|namedtuple"
    r"|NamedTuple|TypedDict|TYPE_CHECKING|abstractmethod)\b|dataclass|overload|contextmanager"
)
NAMES_NOT_USED = set(
    "register mro elements open input version_info with_traceback add_note attrgetter breakpoint builtins compile"
    " copyright credits delattr dir eval exec exit gc getattr globals hasattr help id importlib license locals"
    " methodcaller os quit setattr super type vars sys".split()
)
SHORT_LIVED = {"zip", "enumerate", "reversed", "range"}
TAKERS = {"list", "tuple", "dict", "sorted", "sum", "any", "all", "enumerate", "zip", "min", "max"}
MODULE_LEVEL = (ast.Expr, ast.ImportFrom, ast.FunctionDef, ast.ClassDef, ast.Assign)
BARRED = (
    ast.Import, ast.Global, ast.AsyncFunctionDef, ast.AsyncFor, ast.AsyncWith, ast.Await, ast.Div, ast.MatMult,
)


def tree_of(path):
    return ast.parse(path.read_text(encoding="utf-8"))


def bound_names(tree):
    """Names that the file binds by assignments, loops and parameters."""
    stored = {node.id for node in ast.walk(tree) if isinstance(node, ast.Name) and isinstance(node.ctx, ast.Store)}
    return stored | {node.arg for node in ast.walk(tree) if isinstance(node, ast.arg)}


def defined_names(tree):
    return {node.name for node in ast.walk(tree) if isinstance(node, (ast.FunctionDef, ast.ClassDef))}


def imported_names(tree):
    return {alias.name for node in tree.body if isinstance(node, ast.ImportFrom) for alias in node.names}


def module_names(tree):
    assigned = [target.id for node in tree.body if isinstance(node, ast.Assign) for target in node.targets]
    return assigned + [node.name for node in tree.body if isinstance(node, (ast.FunctionDef, ast.ClassDef))]


def methods_of(tree):
    classes = [node for node in ast.walk(tree) if isinstance(node, ast.ClassDef)]
    return [node.name for there in classes for node in there.body if isinstance(node, ast.FunctionDef)]


def attributes_of(tree, context):
    """The attributes that the file stores, or those that it loads."""
    return {node.attr for node in ast.walk(tree) if isinstance(node, ast.Attribute) and isinstance(node.ctx, context)}


def wanted_files(tree):
    return [node.module.split(".")[1] for node in tree.body if isinstance(node, ast.ImportFrom)]


def parents_of(tree):
    return {child: node for node in ast.walk(tree) for child in ast.iter_child_nodes(node)}


def iterated_at_once(node, parent):
    if isinstance(parent, (ast.For, ast.comprehension)):
        return parent.iter == node
    return isinstance(parent, ast.Call) and isinstance(parent.func, ast.Name) and parent.func.id in TAKERS


class Language(unittest.TestCase):
    def each(self, check):
        self.assertTrue(FILES)
        for path in FILES:
            with self.subTest(path.name):
                check(path.read_text(encoding="utf-8"), tree_of(path))

    def test_files(self):
        for path in PACKAGE.iterdir():
            if path.name != "__pycache__":
                self.assertTrue(path.is_file() and re.fullmatch(r"[a-z0-9_]+\.py", path.name), path)
        self.assertIn("__init__.py", [path.name for path in FILES])

    def test_size_and_characters(self):
        self.each(self.check_size_and_characters)

    def check_size_and_characters(self, text, tree):
        self.assertIsNone(re.search(r"[^ -~\n]", text))
        self.assertIsNone(re.search(WORDS, text))
        self.assertLessEqual(len(text.splitlines()), 400)
        self.assertLessEqual(max(len(line) for line in text.splitlines()), 120)
        for node in ast.walk(tree):
            if isinstance(node, ast.FunctionDef):
                self.assertLessEqual(node.end_lineno - node.lineno + 1, 40, node.name)

    def test_imports(self):
        self.each(self.check_imports)

    def check_imports(self, text, tree):
        heads = [node for node in tree.body if not isinstance(node, ast.Expr)]
        kinds = [isinstance(node, ast.ImportFrom) for node in heads]
        self.assertEqual(kinds, sorted(kinds, reverse=True))
        for node in heads[:kinds.count(True)]:
            self.assertEqual(0, node.level)
            self.assertRegex(node.module, r"^gridshares\.[a-z]+$")
            defined = module_names(tree_of(PACKAGE / (node.module.split(".")[1] + ".py")))
            for alias in node.names:
                self.assertIn(alias.name, defined)

    def test_no_two_files_import_from_each_other(self):
        wants = {path.stem: wanted_files(tree_of(path)) for path in FILES}
        while wants:
            free = [name for name in wants if not set(wants[name]) & set(wants)]
            self.assertTrue(free, wants)
            wants = {name: wants[name] for name in wants if name not in free}

    def test_module_level(self):
        self.each(self.check_module_level)

    def check_module_level(self, text, tree):
        names = module_names(tree) + sorted(imported_names(tree))
        self.assertEqual(len(names), len(set(names)))
        for place, node in enumerate(tree.body):
            self.assertIsInstance(node, MODULE_LEVEL)
            if isinstance(node, ast.Expr):
                self.assertTrue(place == 0 and isinstance(node.value, ast.Constant))
            if isinstance(node, ast.Assign):
                self.assertEqual(1, len(node.targets))
                self.assertFalse([part for part in ast.walk(node.value) if isinstance(part, ast.Call)])

    def test_statements_and_values(self):
        self.each(self.check_statements_and_values)

    def check_statements_and_values(self, text, tree):
        for node in ast.walk(tree):
            self.assertNotIsInstance(node, BARRED)
            if isinstance(node, ast.Constant):
                self.assertNotIsInstance(node.value, (float, complex))
                self.assertFalse(isinstance(node.value, str) and chr(37) in node.value)
            if isinstance(node, ast.FunctionDef):
                self.assertFalse(node.decorator_list or node.args.posonlyargs, node.name)
            if isinstance(node, ast.Compare) and any(isinstance(sign, (ast.Is, ast.IsNot)) for sign in node.ops):
                self.assertTrue(all(isinstance(side, ast.Constant) for side in node.comparators))
            if isinstance(node, ast.BinOp) and isinstance(node.op, ast.Pow):
                self.assertIsInstance(node.right, ast.Constant)

    def test_names(self):
        self.each(self.check_names)

    def check_names(self, text, tree):
        bound, named = bound_names(tree), defined_names(tree) | imported_names(tree)
        for name in bound | named:
            self.assertRegex(name, r"^([A-Za-z][A-Za-z0-9_]*|__[a-z]+__)$")
        self.assertFalse((bound | named) & (set(dir(builtins)) | NAMES_NOT_USED))
        self.assertFalse(bound & imported_names(tree))
        loaded = {node.id for node in ast.walk(tree) if isinstance(node, ast.Name)}
        self.assertFalse(loaded - bound - named - BUILTINS)

    def test_methods(self):
        self.each(self.check_methods)

    def check_methods(self, text, tree):
        own = {name for path in FILES for name in defined_names(tree_of(path))}
        for node in ast.walk(tree):
            if isinstance(node, ast.Call) and isinstance(node.func, ast.Attribute):
                self.assertIn(node.func.attr, METHODS | own)

    def test_iterated_at_once(self):
        self.each(self.check_iterated_at_once)

    def check_iterated_at_once(self, text, tree):
        parents = parents_of(tree)
        for node in ast.walk(tree):
            if isinstance(node, ast.Call) and isinstance(node.func, ast.Name) and node.func.id in SHORT_LIVED:
                self.assertTrue(iterated_at_once(node, parents[node]), ast.unparse(node))

    def test_methods_and_attributes(self):
        trees = [tree_of(path) for path in FILES]
        methods = {name for tree in trees for name in methods_of(tree)}
        stored = {name for tree in trees for name in attributes_of(tree, ast.Store)}
        loaded = {name for tree in trees for name in attributes_of(tree, ast.Load)}
        self.assertFalse(methods & stored)
        self.assertFalse(loaded - methods - stored - METHODS)
        kinds = [str, int, list, tuple, dict, set, bytes]
        self.assertFalse(((methods | stored) - {"__init__"}) & {name for kind in kinds for name in dir(kind)})

    def test_methods_stand_once_in_their_class(self):
        self.each(self.check_methods_stand_once)

    def check_methods_stand_once(self, text, tree):
        for there in [node for node in ast.walk(tree) if isinstance(node, ast.ClassDef)]:
            self.assertIn(there, tree.body)
            names = [node.name for node in there.body if isinstance(node, ast.FunctionDef)]
            self.assertEqual(len(names), len(set(names)))
            for node in there.body:
                self.assertIsInstance(node, (ast.FunctionDef, ast.Expr))
