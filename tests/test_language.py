"""The package's files held against the rules of its language, as far as a small check can see them."""

import ast
import pathlib
import re
import unittest

PACKAGE = pathlib.Path(__file__).resolve().parent.parent / "glyphhall"

BUILT_IN = set(
    "len range enumerate zip min max sum abs sorted reversed int str bool list tuple dict set frozenset isinstance ord repr any all "
    "divmod Exception ValueError TypeError KeyError IndexError LookupError ZeroDivisionError ArithmeticError OverflowError "
    "RuntimeError NotImplementedError AttributeError StopIteration".split()
)
PYTHON_METHODS = set(
    "append clear copy count endswith extend find get index insert isalnum isalpha isdigit islower isspace isupper items join keys "
    "ljust lower lstrip partition pop remove replace reverse rfind rjust rpartition rsplit rstrip setdefault split splitlines "
    "startswith strip update upper values zfill bit_length".split()
)
OWN_UNDERSCORED = ("__init__", "__eq__", "__repr__", "__str__", "__len__")
FORBIDDEN_WORDS = re.compile(
    r"\b(type|typing|typing_extensions|enum|Enum|IntEnum|StrEnum|Flag|IntFlag|Generic|Protocol|ABC|ABCMeta|namedtuple|NamedTuple"
    r"|TypedDict|TYPE_CHECKING|abstractmethod)\b|dataclass|overload|contextmanager"
)
STATEMENTS = (
    ast.Assign, ast.AugAssign, ast.If, ast.While, ast.For, ast.Return, ast.Break, ast.Continue, ast.Pass, ast.Raise, ast.Try,
    ast.Expr, ast.FunctionDef, ast.ClassDef, ast.ImportFrom,
)
FORBIDDEN_EXPRESSIONS = (
    ast.SetComp, ast.DictComp, ast.GeneratorExp, ast.NamedExpr, ast.Starred, ast.Await, ast.Yield, ast.YieldFrom, ast.Div,
    ast.MatMult, ast.Set,
)


def package_files():
    return sorted(path for path in PACKAGE.iterdir() if path.name != "__pycache__")


def trees():
    for path in package_files():
        yield path, ast.parse(path.read_text(encoding="utf-8"))


def nodes_of(kind):
    for path, tree in trees():
        for node in ast.walk(tree):
            if isinstance(node, kind):
                yield f"{path.name}:{getattr(node, 'lineno', 0)}", node


def bound_names(tree):
    """All names that a file binds anywhere."""
    names = set()
    for node in ast.walk(tree):
        if isinstance(node, (ast.FunctionDef, ast.ClassDef)):
            names.add(node.name)
        elif isinstance(node, ast.arg):
            names.add(node.arg)
        elif isinstance(node, ast.alias):
            names.add(node.asname or node.name)
        elif isinstance(node, ast.ExceptHandler) and node.name:
            names.add(node.name)
        elif isinstance(node, ast.Name) and isinstance(node.ctx, ast.Store):
            names.add(node.id)
    return names


class FilesTest(unittest.TestCase):
    def test_plain_files_alone(self):
        self.assertIn("__init__.py", [path.name for path in package_files()])
        for path in package_files():
            self.assertRegex(path.name, r"^([a-z][a-z0-9_]*|__init__|__main__)\.py$")

    def test_signs_lines_and_sizes(self):
        for path in package_files():
            data = path.read_bytes()
            self.assertTrue(all(byte == 10 or 32 <= byte <= 126 for byte in data), path)
            lines = data.decode("ascii").splitlines()
            self.assertLessEqual(len(lines), 400, path)
            self.assertLessEqual(max(map(len, lines)), 120, path)
            self.assertIsNone(FORBIDDEN_WORDS.search(data.decode("ascii")), path)

    def test_functions_of_at_most_forty_lines(self):
        for place, node in nodes_of(ast.FunctionDef):
            self.assertLessEqual(node.end_lineno - node.lineno + 1, 40, place)


class FormsTest(unittest.TestCase):
    def test_statements(self):
        for place, node in nodes_of(ast.stmt):
            self.assertIsInstance(node, STATEMENTS, place)
            if isinstance(node, ast.Assign):
                self.assertEqual(len(node.targets), 1, place)
            if isinstance(node, (ast.For, ast.While)):
                self.assertEqual(node.orelse, [], place)
            if isinstance(node, ast.Expr):
                self.assertIsInstance(node.value, (ast.Call, ast.Constant), place)

    def test_expressions(self):
        for place, node in nodes_of(ast.AST):
            self.assertNotIsInstance(node, FORBIDDEN_EXPRESSIONS, place)
        for place, node in nodes_of(ast.Constant):
            self.assertNotIsInstance(node.value, (float, bytes, complex), place)
            if isinstance(node.value, str):
                self.assertNotIn("%", node.value, place)
        for place, node in nodes_of(ast.ListComp):
            self.assertEqual(len(node.generators), 1, place)
            self.assertLessEqual(len(node.generators[0].ifs), 1, place)
        for place, node in nodes_of(ast.FormattedValue):
            self.assertIsInstance(node.value, ast.Name, place)
        for place, node in nodes_of(ast.Compare):
            if any(isinstance(sign, (ast.Is, ast.IsNot)) for sign in node.ops):
                self.assertIn(getattr(node.comparators[0], "value", "no constant"), (None, True, False), place)

    def test_functions_and_classes(self):
        for place, node in nodes_of(ast.FunctionDef):
            self.assertEqual(node.decorator_list, [], place)
            extras = (node.args.vararg, node.args.kwarg, node.args.kwonlyargs, node.args.posonlyargs)
            self.assertEqual(extras, (None, None, [], []), place)
        for place, node in nodes_of(ast.ClassDef):
            self.assertEqual((node.decorator_list, node.keywords), ([], []), place)
            self.assertLessEqual(len(node.bases), 1, place)


class NamesTest(unittest.TestCase):
    def test_imports(self):
        modules = {f"glyphhall.{path.stem}" for path in package_files()}
        for place, node in nodes_of(ast.ImportFrom):
            self.assertEqual(node.level, 0, place)
            self.assertIn(node.module, modules, place)
            self.assertNotIn("*", [alias.name for alias in node.names], place)

    def test_imports_from_the_file_that_defines(self):
        tops = {f"glyphhall.{path.stem}": tree.body for path, tree in trees()}
        for place, node in nodes_of(ast.ImportFrom):
            defined = set()
            for part in tops[node.module]:
                if isinstance(part, (ast.FunctionDef, ast.ClassDef)):
                    defined.add(part.name)
                elif isinstance(part, ast.Assign):
                    defined.add(part.targets[0].id)
            for alias in node.names:
                self.assertIn(alias.name, defined, place)

    def test_names(self):
        for path, tree in trees():
            bound = bound_names(tree)
            python_names = set(dir(__import__("builtins")))
            for name in bound - set(OWN_UNDERSCORED):
                self.assertRegex(name, r"^[A-Za-z][A-Za-z0-9_]*$", path)
                self.assertNotIn(name, python_names, path)
            for node in ast.walk(tree):
                if isinstance(node, ast.Name):
                    self.assertIn(node.id, bound | BUILT_IN, f"{path.name}:{node.lineno}")

    def test_methods_and_values(self):
        own = set(OWN_UNDERSCORED)
        for place, node in nodes_of(ast.Attribute):
            if isinstance(node.ctx, ast.Store):
                own.add(node.attr)
        for place, node in nodes_of(ast.ClassDef):
            own.update(part.name for part in node.body if isinstance(part, ast.FunctionDef))
        for place, node in nodes_of(ast.Attribute):
            self.assertIn(node.attr, own | PYTHON_METHODS, place)

    def test_nothing_is_bound_twice_at_the_top(self):
        for path, tree in trees():
            names = []
            for part in tree.body:
                names += sorted(bound_names(ast.Module([part], []))) if isinstance(part, (ast.Assign, ast.ImportFrom)) else []
                names += [part.name] if isinstance(part, (ast.FunctionDef, ast.ClassDef)) else []
            self.assertEqual(len(names), len(set(names)), path)
