"""The rules of the written language that can be seen in one file at a time; the others are for the reader."""

import ast
import builtins
import pathlib
import re
import unittest

PACKAGE = pathlib.Path(__file__).resolve().parent.parent / "slantfloor"

NODES = set("""
    Module Expr ImportFrom alias FunctionDef ClassDef arguments arg Return Assign AugAssign If While For Break
    Continue Pass Raise Try ExceptHandler BoolOp And Or BinOp Add Sub Mult FloorDiv Mod Pow BitAnd BitOr BitXor
    LShift RShift UnaryOp Not USub UAdd Invert IfExp Call keyword Attribute Subscript Slice Compare Eq NotEq Lt LtE
    Gt GtE Is IsNot In NotIn ListComp comprehension JoinedStr FormattedValue Constant Name Load Store List Tuple
    Dict Set Lambda
""".split())
OWN_NAMES = set("""
    len range enumerate zip min max sum abs sorted reversed int str bool list tuple dict set frozenset isinstance
    ord repr any all divmod Exception ValueError TypeError KeyError IndexError LookupError ZeroDivisionError
    ArithmeticError OverflowError RuntimeError NotImplementedError AttributeError StopIteration
""".split())
OWN_METHODS = set("""
    append clear copy count endswith extend find get index insert isalnum isalpha isdigit islower isspace isupper
    items join keys ljust lower lstrip partition pop remove replace reverse rfind rjust rpartition rsplit rstrip
    setdefault split splitlines startswith strip update upper values zfill bit_length add discard
""".split())
TWO_UNDERSCORES = {"__init__", "__eq__", "__repr__", "__str__", "__len__"}
WORDS = re.compile(
    r"\b(type|typing|typing_extensions|enum|Enum|IntEnum|StrEnum|Flag|IntFlag|Generic|Protocol|ABC|ABCMeta"
    r"|namedtuple|NamedTuple|TypedDict|TYPE_CHECKING|abstractmethod)\b|dataclass|overload|contextmanager"
)


def python_has(name):
    return any(hasattr(kind, name) for kind in (str, int, list, tuple, dict, set, bytes))


def bound_names(node):
    if isinstance(node, (ast.FunctionDef, ast.ClassDef)):
        return [node.name]
    if isinstance(node, ast.arg):
        return [node.arg]
    if isinstance(node, ast.Name) and isinstance(node.ctx, ast.Store):
        return [node.id]
    return []


class TestLanguage(unittest.TestCase):
    def on_each_file(self, check):
        for path in sorted(PACKAGE.glob("*.py")):
            with self.subTest(file=path.name):
                check(path.read_text(encoding="utf-8"))

    def on_each_node(self, kind, check):
        for path in sorted(PACKAGE.glob("*.py")):
            for node in ast.walk(ast.parse(path.read_text(encoding="utf-8"))):
                if isinstance(node, kind):
                    with self.subTest(file=path.name, line=getattr(node, "lineno", 0)):
                        check(node)

    def test_only_plain_files(self):
        found = [path.name for path in PACKAGE.iterdir() if path.name != "__pycache__"]
        self.assertIn("__init__.py", found)
        for name in found:
            self.assertRegex(name, r"\A(__init__|[a-z][a-z0-9_]*)\.py\Z")

    def test_signs_and_sizes(self):
        def check(text):
            self.assertRegex(text, r"\A[ -~\n]*\Z")
            self.assertIsNone(WORDS.search(text))
            self.assertLessEqual(len(text.splitlines()), 400)
            self.assertLessEqual(max(len(line) for line in text.splitlines()), 120)
        self.on_each_file(check)

    def test_nodes(self):
        self.on_each_node(ast.AST, lambda node: self.assertIn(node.__class__.__name__, NODES))

    def test_plain_values(self):
        kinds = (int, str, bool, None.__class__)
        self.on_each_node(ast.Constant, lambda node: self.assertIn(node.value.__class__, kinds))

    def test_statements(self):
        self.on_each_node(ast.Assign, lambda node: self.assertEqual(len(node.targets), 1))
        self.on_each_node((ast.For, ast.While), lambda node: self.assertEqual(node.orelse, []))

    def test_comprehensions(self):
        def check(node):
            self.assertEqual(len(node.generators), 1)
            self.assertLessEqual(len(node.generators[0].ifs), 1)
        self.on_each_node(ast.ListComp, check)

    def test_imports(self):
        def check(node):
            self.assertEqual(node.level, 0)
            self.assertRegex(node.module, r"\A(__future__|slantfloor\.[a-z][a-z0-9_]*)\Z")
            self.assertNotIn("*", [name.name for name in node.names])
        self.on_each_node(ast.ImportFrom, check)

    def test_functions(self):
        def check(node):
            self.assertLessEqual(node.end_lineno - node.lineno + 1, 40)
            self.assertEqual(node.decorator_list, [])
            self.assertIsNone(node.args.vararg or node.args.kwarg)
            self.assertEqual(node.args.kwonlyargs + node.args.posonlyargs, [])
        self.on_each_node(ast.FunctionDef, check)

    def test_names_of_python(self):
        def check(node):
            if hasattr(builtins, node.id):
                self.assertIn(node.id, OWN_NAMES)
                self.assertIsInstance(node.ctx, ast.Load)
        self.on_each_node(ast.Name, check)

    def test_methods_of_python(self):
        def check(node):
            if python_has(node.attr):
                self.assertIn(node.attr, OWN_METHODS | TWO_UNDERSCORES)
        self.on_each_node(ast.Attribute, check)

    def test_own_names(self):
        def check(node):
            for name in bound_names(node):
                if name not in TWO_UNDERSCORES:
                    self.assertRegex(name, r"\A[A-Za-z][A-Za-z0-9_]*\Z")
        self.on_each_node(ast.AST, check)


if __name__ == "__main__":
    unittest.main()
