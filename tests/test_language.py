"""The rules of the written language that can be seen in one file at a time; the others are for the reader."""

import ast
import builtins
import pathlib
import re
import unittest

PACKAGE = pathlib.Path(__file__).resolve().parent.parent / "slantfloor"

NODES = set("""
    Module Expr ImportFrom alias FunctionDef ClassDef arguments arg Return Assign AugAssign If While For Break
    Continue Pass Raise Try ExceptHandler BoolOp And Or BinOp Add Sub Mult FloorDiv Mod Pow BitAnd BitOr BitXor
    LShift RShift UnaryOp Not USub UAdd Invert IfExp Call keyword Attribute Subscript Slice Compare Eq NotEq Lt LtE
    Gt GtE Is IsNot In NotIn ListComp comprehension JoinedStr FormattedValue Constant Name Load Store List Tuple
    Dict Set Lambda
""".split())
OWN_NAMES = set("""
    len range enumerate zip min max sum abs sorted reversed int str bool list tuple dict set frozenset isinstance
    ord repr any all divmod Exception ValueError TypeError KeyError IndexError LookupError ZeroDivisionError
    ArithmeticError OverflowError RuntimeError NotImplementedError AttributeError StopIteration
""".split())
OWN_METHODS = set("""
    append clear copy count endswith extend find get index insert isalnum isalpha isdigit islower isspace isupper
    items join keys ljust lower lstrip partition pop remove replace reverse rfind rjust rpartition rsplit rstrip
    setdefault split splitlines startswith strip update upper values zfill bit_length add discard
""".split())
TWO_UNDERSCORES = {"__init__", "__eq__", "__repr__", "__str__", "__len__"}
WORDS = re.compile(
    r"\b(type|typing|typing_extensions|enum|Enum|IntEnum|StrEnum|Flag|IntFlag|Generic|Protocol|ABC|ABCMeta"
    r"|namedtuple|NamedTuple|TypedDict|TYPE_CHECKING|abstractmethod)\b|dataclass|overload|contextmanager"
)


UNUSED = set("""
    register mro elements open input version_info with_traceback add_note attrgetter breakpoint builtins compile
    copyright credits delattr dir eval exec exit gc getattr globals hasattr help id importlib license locals
    methodcaller os quit setattr super sys type vars chr print
""".split())
# What is walked on the spot, and where.
WALKED = set("zip enumerate reversed range".split())
WALKED_METHODS = set("items keys values".split())
WALKERS = set("list tuple dict sorted sum any all enumerate zip min max".split())


def python_has(name):
    return any(hasattr(kind, name) for kind in (str, int, list, tuple, dict, set, bytes))


def bound_names(node):
    if isinstance(node, (ast.FunctionDef, ast.ClassDef)):
        return [node.name]
    if isinstance(node, ast.arg):
        return [node.arg]
    if isinstance(node, ast.Name) and isinstance(node.ctx, ast.Store):
        return [node.id]
    return []


def names_of_the_top(tree):
    found = imported(tree)
    for node in tree.body:
        if isinstance(node, (ast.FunctionDef, ast.ClassDef)):
            found.append(node.name)
        elif isinstance(node, ast.Assign):
            found.append(node.targets[0].id)
    return found


def imported(tree):
    rows = [node for node in tree.body if isinstance(node, ast.ImportFrom)]
    return [name.asname or name.name for row in rows for name in row.names]


def imports_and_classes(tree):
    return imported(tree) + [node.name for node in tree.body if isinstance(node, ast.ClassDef)]


def locals_of(tree):
    found = []
    for top in tree.body:
        if isinstance(top, (ast.FunctionDef, ast.ClassDef)):
            for node in ast.walk(top):
                if node is not top and isinstance(node, (ast.arg, ast.Name)):
                    found += bound_names(node)
    return found


def is_called(node, names):
    return isinstance(node, ast.Call) and isinstance(node.func, ast.Name) and node.func.id in names


def is_walked_value(node):
    if is_called(node, WALKED):
        return True
    return isinstance(node, ast.Call) and isinstance(node.func, ast.Attribute) and node.func.attr in WALKED_METHODS


def drawn_from(tree):
    return [node.module.split(".")[-1] for node in tree.body if isinstance(node, ast.ImportFrom)]


class TestLanguage(unittest.TestCase):
    def on_each_file(self, check):
        for path in sorted(PACKAGE.glob("*.py")):
            with self.subTest(file=path.name):
                check(path.read_text(encoding="utf-8"))

    def on_each_node(self, kind, check):
        for path in sorted(PACKAGE.glob("*.py")):
            for node in ast.walk(ast.parse(path.read_text(encoding="utf-8"))):
                if isinstance(node, kind):
                    with self.subTest(file=path.name, line=getattr(node, "lineno", 0)):
                        check(node)

    def test_only_plain_files(self):
        found = [path.name for path in PACKAGE.iterdir() if path.name != "__pycache__"]
        self.assertIn("__init__.py", found)
        for name in found:
            self.assertRegex(name, r"\A(__init__|[a-z][a-z0-9_]*)\.py\Z")

    def test_signs_and_sizes(self):
        def check(text):
            self.assertRegex(text, r"\A[ -~\n]*\Z")
            self.assertIsNone(WORDS.search(text))
            self.assertLessEqual(len(text.splitlines()), 400)
            self.assertLessEqual(max(len(line) for line in text.splitlines()), 120)
        self.on_each_file(check)

    def test_nodes(self):
        self.on_each_node(ast.AST, lambda node: self.assertIn(node.__class__.__name__, NODES))

    def test_plain_values(self):
        kinds = (int, str, bool, None.__class__)
        self.on_each_node(ast.Constant, lambda node: self.assertIn(node.value.__class__, kinds))

    def test_statements(self):
        self.on_each_node(ast.Assign, lambda node: self.assertEqual(len(node.targets), 1))
        self.on_each_node((ast.For, ast.While), lambda node: self.assertEqual(node.orelse, []))

    def test_comprehensions(self):
        def check(node):
            self.assertEqual(len(node.generators), 1)
            self.assertLessEqual(len(node.generators[0].ifs), 1)
        self.on_each_node(ast.ListComp, check)

    def test_imports(self):
        def check(node):
            self.assertEqual(node.level, 0)
            self.assertRegex(node.module, r"\A(__future__|slantfloor\.[a-z][a-z0-9_]*)\Z")
            self.assertNotIn("*", [name.name for name in node.names])
        self.on_each_node(ast.ImportFrom, check)

    def test_functions(self):
        def check(node):
            self.assertLessEqual(node.end_lineno - node.lineno + 1, 40)
            self.assertEqual(node.decorator_list, [])
            self.assertIsNone(node.args.vararg or node.args.kwarg)
            self.assertEqual(node.args.kwonlyargs + node.args.posonlyargs, [])
        self.on_each_node(ast.FunctionDef, check)

    def test_names_of_python(self):
        def check(node):
            if hasattr(builtins, node.id):
                self.assertIn(node.id, OWN_NAMES)
                self.assertIsInstance(node.ctx, ast.Load)
        self.on_each_node(ast.Name, check)

    def test_methods_of_python(self):
        def check(node):
            if python_has(node.attr):
                self.assertIn(node.attr, OWN_METHODS | TWO_UNDERSCORES)
        self.on_each_node(ast.Attribute, check)

    def test_own_names(self):
        def check(node):
            for name in bound_names(node):
                if name not in TWO_UNDERSCORES:
                    self.assertRegex(name, r"\A[A-Za-z][A-Za-z0-9_]*\Z")
        self.on_each_node(ast.AST, check)

    def test_names_that_are_not_used(self):
        self.on_each_node(ast.Name, lambda node: self.assertNotIn(node.id, UNUSED))

    def test_no_local_is_called_like_another_thing(self):
        def check(text):
            tree = ast.parse(text)
            taken = imports_and_classes(tree)
            for name in locals_of(tree):
                self.assertNotIn(name, taken)
                self.assertFalse(hasattr(builtins, name), name)
        self.on_each_file(check)

    def test_each_name_of_the_top_once(self):
        def check(text):
            names = names_of_the_top(ast.parse(text))
            self.assertEqual(len(set(names)), len(names))
        self.on_each_file(check)

    def test_is_stands_beside_plain_values(self):
        def check(node):
            for sign, right in zip(node.ops, node.comparators):
                if isinstance(sign, (ast.Is, ast.IsNot)):
                    self.assertIsInstance(right, ast.Constant)
                    self.assertIn(right.value, (None, True, False))
        self.on_each_node(ast.Compare, check)

    def test_walked_on_the_spot(self):
        def check(text):
            tree = ast.parse(text)
            fine = set()
            for node in ast.walk(tree):
                if isinstance(node, (ast.For, ast.comprehension)):
                    fine.add(node.iter)
                if is_called(node, WALKERS) and node.args:
                    fine.update(node.args if node.func.id == "zip" else node.args[:1])
            for node in ast.walk(tree):
                if is_walked_value(node):
                    self.assertIn(node, fine, node.lineno)
        self.on_each_file(check)

    def test_no_kept_sets(self):
        self.on_each_node(ast.Call, lambda node: self.assertFalse(is_called(node, {"set", "frozenset"})))
        self.on_each_node(ast.Set, lambda node: self.fail("a set written out"))

    def test_texts_and_powers(self):
        def check_text(node):
            if isinstance(node.value, str):
                self.assertNotIn("%", node.value)
        self.on_each_node(ast.Constant, check_text)

        def check_power(node):
            if isinstance(node.op, ast.Pow):
                self.assertIsInstance(node.right, ast.Constant)
        self.on_each_node(ast.BinOp, check_power)

    def test_plain_words_in_braces(self):
        self.on_each_node(ast.FormattedValue, lambda node: self.assertIsInstance(node.value, ast.Name))

    def test_errors_are_taken_by_own_names(self):
        def check(node):
            self.assertIsInstance(node.type, ast.Name)
            self.assertRegex(node.type.id, r"\A(No[A-Z][a-z]+|TooMany|SlantError|KeyError|ZeroDivisionError)\Z")
        self.on_each_node(ast.ExceptHandler, check)

    def test_no_two_files_draw_from_one_another(self):
        files = {path.stem: ast.parse(path.read_text(encoding="utf-8")) for path in PACKAGE.glob("*.py")}
        drawn = {name: set(drawn_from(tree)) for name, tree in files.items()}
        self.assertEqual(drawn["__init__"], set())
        while drawn:
            done = {name for name in drawn if not drawn[name]}
            self.assertTrue(done, drawn)
            drawn = {name: drawn[name] - done for name in drawn if name not in done}

    def test_names_are_drawn_from_where_they_are_defined(self):
        files = {path.stem: ast.parse(path.read_text(encoding="utf-8")) for path in PACKAGE.glob("*.py")}
        for tree in files.values():
            for node in tree.body:
                if isinstance(node, ast.ImportFrom):
                    source = files[node.module.split(".")[-1]]
                    own = [name for name in names_of_the_top(source) if name not in imported(source)]
                    for name in node.names:
                        self.assertIn(name.name, own)

    def test_no_name_is_a_method_and_a_value(self):
        methods, values = set(), set()
        for path in sorted(PACKAGE.glob("*.py")):
            for node in ast.walk(ast.parse(path.read_text(encoding="utf-8"))):
                if isinstance(node, ast.ClassDef):
                    methods.update(part.name for part in node.body if isinstance(part, ast.FunctionDef))
                if isinstance(node, ast.Attribute) and isinstance(node.ctx, ast.Store):
                    values.add(node.attr)
        self.assertEqual(methods & values, set())
        self.assertFalse([name for name in values if python_has(name)])


if __name__ == "__main__":
    unittest.main()
