"""The package's files held against the rules of its language, as far as a small check can see them."""

import ast
import pathlib
import re
import unittest

PACKAGE = pathlib.Path(__file__).resolve().parent.parent / "glyphhall"

BUILT_IN = set(
    "len range enumerate zip min max sum abs sorted reversed int str bool list tuple dict set frozenset isinstance ord repr any all "
    "divmod Exception ValueError TypeError KeyError IndexError LookupError ZeroDivisionError ArithmeticError OverflowError "
    "RuntimeError NotImplementedError AttributeError StopIteration".split()
)
PYTHON_METHODS = set(
    "append clear copy count endswith extend find get index insert isalnum isalpha isdigit islower isspace isupper items join keys "
    "ljust lower lstrip partition pop remove replace reverse rfind rjust rpartition rsplit rstrip setdefault split splitlines "
    "startswith strip update upper values zfill bit_length".split()
)
UNUSED_NAMES = set(
    "register mro elements open input version_info with_traceback add_note attrgetter breakpoint builtins compile copyright credits "
    "delattr dir eval exec exit gc getattr globals hasattr help id importlib license locals methodcaller os quit setattr super sys "
    "vars format format_map chr print".split()
)
KEYWORDS = {
    "sorted": {"key", "reverse"}, "min": {"key", "default"}, "max": {"key", "default"}, "sum": {"start"}, "enumerate": {"start"},
    "zip": {"strict"},
}
WALKED = ("zip", "enumerate", "reversed", "range")
WALKED_METHODS = ("items", "keys", "values")
WALKERS = ("list", "tuple", "dict", "sorted", "sum", "any", "all", "enumerate", "zip")
CHANGING = ("append", "clear", "extend", "insert", "pop", "remove", "reverse", "setdefault", "update")
READING = ("get", "index", "count", "items", "keys", "values", "copy")
READERS = ("len", "list", "tuple", "dict", "sorted", "sum", "any", "all", "enumerate", "zip", "reversed", "min", "max")
OWN_UNDERSCORED = ("__init__", "__eq__", "__repr__", "__str__", "__len__")
FORBIDDEN_WORDS = re.compile(
    r"\b(type|typing|typing_extensions|enum|Enum|IntEnum|StrEnum|Flag|IntFlag|Generic|Protocol|ABC|ABCMeta|namedtuple|NamedTuple"
    r"|TypedDict|TYPE_CHECKING|abstractmethod)\b|dataclass|overload|contextmanager"
)
STATEMENTS = (
    ast.Assign, ast.AugAssign, ast.If, ast.While, ast.For, ast.Return, ast.Break, ast.Continue, ast.Pass, ast.Raise, ast.Try,
    ast.Expr, ast.FunctionDef, ast.ClassDef, ast.ImportFrom,
)
FORBIDDEN_EXPRESSIONS = (
    ast.SetComp, ast.DictComp, ast.GeneratorExp, ast.NamedExpr, ast.Starred, ast.Await, ast.Yield, ast.YieldFrom, ast.Div,
    ast.MatMult, ast.Set,
)


def package_files():
    return sorted(path for path in PACKAGE.iterdir() if path.name != "__pycache__")


def trees():
    for path in package_files():
        yield path, ast.parse(path.read_text(encoding="utf-8"))


def nodes_of(kind):
    for path, tree in trees():
        for node in ast.walk(tree):
            if isinstance(node, kind):
                yield f"{path.name}:{getattr(node, 'lineno', 0)}", node


def parents_of(tree):
    """From each node of a tree to the one that it stands in."""
    return {child: node for node in ast.walk(tree) for child in ast.iter_child_nodes(node)}


def called_name(node):
    """The name that a node calls, "" where it is no such call."""
    return node.func.id if isinstance(node, ast.Call) and isinstance(node.func, ast.Name) else ""


def is_walked(node, parent):
    """Whether what a node tells is walked on the spot."""
    if isinstance(parent, (ast.For, ast.comprehension)):
        return parent.iter is node
    if not isinstance(parent, ast.Call) or node not in parent.args:
        return False
    if called_name(parent) in ("min", "max"):
        return len(parent.args) == 1
    if isinstance(parent.func, ast.Attribute):
        return parent.func.attr == "join" and isinstance(parent.func.value, ast.Constant)
    return called_name(parent) == "zip" or called_name(parent) in WALKERS and parent.args[0] is node


def walked_texts(node):
    """The written forms of all that a loop walks, itself or through zip, enumerate and their like."""
    if isinstance(node, ast.Call) and called_name(node) in WALKED:
        return [text for part in node.args for text in walked_texts(part)]
    if isinstance(node, ast.Call) and isinstance(node.func, ast.Attribute) and node.func.attr in WALKED_METHODS:
        return walked_texts(node.func.value)
    return [ast.unparse(node)] if isinstance(node, (ast.Name, ast.Attribute, ast.Subscript)) else []


def changed_text(node):
    """The written form of what a node changes in its place, None where it changes nothing so."""
    if isinstance(node, ast.Call) and isinstance(node.func, ast.Attribute) and node.func.attr in CHANGING:
        return ast.unparse(node.func.value)
    if isinstance(node, ast.Subscript) and isinstance(node.ctx, ast.Store):
        return ast.unparse(node.value)
    if isinstance(node, ast.AugAssign):
        return ast.unparse(node.target)
    return None


def top_values(tree):
    """The names of a file's top that are given a list or a dict."""
    return [part.targets[0].id for part in tree.body if isinstance(part, ast.Assign) and isinstance(part.value, (ast.List, ast.Dict))]


def bound_names(tree):
    """All names that a file binds anywhere."""
    names = set()
    for node in ast.walk(tree):
        if isinstance(node, (ast.FunctionDef, ast.ClassDef)):
            names.add(node.name)
        elif isinstance(node, ast.arg):
            names.add(node.arg)
        elif isinstance(node, ast.alias):
            names.add(node.asname or node.name)
        elif isinstance(node, ast.ExceptHandler) and node.name:
            names.add(node.name)
        elif isinstance(node, ast.Name) and isinstance(node.ctx, ast.Store):
            names.add(node.id)
    return names


class FilesTest(unittest.TestCase):
    def test_plain_files_alone(self):
        self.assertIn("__init__.py", [path.name for path in package_files()])
        for path in package_files():
            self.assertRegex(path.name, r"^([a-z][a-z0-9_]*|__init__|__main__)\.py$")

    def test_signs_lines_and_sizes(self):
        for path in package_files():
            data = path.read_bytes()
            self.assertTrue(all(byte == 10 or 32 <= byte <= 126 for byte in data), path)
            lines = data.decode("ascii").splitlines()
            self.assertLessEqual(len(lines), 400, path)
            self.assertLessEqual(max(map(len, lines)), 120, path)
            self.assertIsNone(FORBIDDEN_WORDS.search(data.decode("ascii")), path)

    def test_functions_of_at_most_forty_lines(self):
        for place, node in nodes_of(ast.FunctionDef):
            self.assertLessEqual(node.end_lineno - node.lineno + 1, 40, place)


class FormsTest(unittest.TestCase):
    def test_statements(self):
        for place, node in nodes_of(ast.stmt):
            self.assertIsInstance(node, STATEMENTS, place)
            if isinstance(node, ast.Assign):
                self.assertEqual(len(node.targets), 1, place)
            if isinstance(node, (ast.For, ast.While)):
                self.assertEqual(node.orelse, [], place)
            if isinstance(node, ast.Expr):
                self.assertIsInstance(node.value, (ast.Call, ast.Constant), place)

    def test_expressions(self):
        for place, node in nodes_of(ast.AST):
            self.assertNotIsInstance(node, FORBIDDEN_EXPRESSIONS, place)
        for place, node in nodes_of(ast.Constant):
            self.assertNotIsInstance(node.value, (float, bytes, complex), place)
            if isinstance(node.value, str):
                self.assertNotIn("%", node.value, place)
        for place, node in nodes_of(ast.ListComp):
            self.assertEqual(len(node.generators), 1, place)
            self.assertLessEqual(len(node.generators[0].ifs), 1, place)
        for place, node in nodes_of(ast.FormattedValue):
            self.assertIsInstance(node.value, ast.Name, place)
        for place, node in nodes_of(ast.Compare):
            if any(isinstance(sign, (ast.Is, ast.IsNot)) for sign in node.ops):
                self.assertIn(getattr(node.comparators[0], "value", "no constant"), (None, True, False), place)

    def test_functions_and_classes(self):
        for place, node in nodes_of(ast.FunctionDef):
            self.assertEqual(node.decorator_list, [], place)
            extras = (node.args.vararg, node.args.kwarg, node.args.kwonlyargs, node.args.posonlyargs)
            self.assertEqual(extras, (None, None, [], []), place)
        for place, node in nodes_of(ast.ClassDef):
            self.assertEqual((node.decorator_list, node.keywords), ([], []), place)
            self.assertLessEqual(len(node.bases), 1, place)


class NamesTest(unittest.TestCase):
    def test_imports(self):
        modules = {f"glyphhall.{path.stem}" for path in package_files()}
        for place, node in nodes_of(ast.ImportFrom):
            self.assertEqual(node.level, 0, place)
            self.assertIn(node.module, modules, place)
            self.assertNotIn("*", [alias.name for alias in node.names], place)

    def test_imports_from_the_file_that_defines(self):
        tops = {f"glyphhall.{path.stem}": tree.body for path, tree in trees()}
        for place, node in nodes_of(ast.ImportFrom):
            defined = set()
            for part in tops[node.module]:
                if isinstance(part, (ast.FunctionDef, ast.ClassDef)):
                    defined.add(part.name)
                elif isinstance(part, ast.Assign):
                    defined.add(part.targets[0].id)
            for alias in node.names:
                self.assertIn(alias.name, defined, place)

    def test_names(self):
        for path, tree in trees():
            bound = bound_names(tree)
            python_names = set(dir(__import__("builtins")))
            for name in bound - set(OWN_UNDERSCORED):
                self.assertRegex(name, r"^[A-Za-z][A-Za-z0-9_]*$", path)
                self.assertNotIn(name, python_names, path)
            for node in ast.walk(tree):
                if isinstance(node, ast.Name):
                    self.assertIn(node.id, bound | BUILT_IN, f"{path.name}:{node.lineno}")

    def test_methods_and_values(self):
        own = set(OWN_UNDERSCORED)
        for place, node in nodes_of(ast.Attribute):
            if isinstance(node.ctx, ast.Store):
                own.add(node.attr)
        for place, node in nodes_of(ast.ClassDef):
            own.update(part.name for part in node.body if isinstance(part, ast.FunctionDef))
        for place, node in nodes_of(ast.Attribute):
            self.assertIn(node.attr, own | PYTHON_METHODS, place)

    def test_nothing_is_bound_twice_at_the_top(self):
        for path, tree in trees():
            names = []
            for part in tree.body:
                names += sorted(bound_names(ast.Module([part], []))) if isinstance(part, (ast.Assign, ast.ImportFrom)) else []
                names += [part.name] if isinstance(part, (ast.FunctionDef, ast.ClassDef)) else []
            self.assertEqual(len(names), len(set(names)), path)

    def test_unused_names(self):
        for path, tree in trees():
            for node in ast.walk(tree):
                self.assertNotIn(getattr(node, "id", getattr(node, "attr", "")), UNUSED_NAMES, path)
            self.assertEqual(bound_names(tree) & UNUSED_NAMES, set(), path)

    def test_no_parameter_or_local_is_called_like_something_of_the_top(self):
        for path, tree in trees():
            tops = set()
            for part in tree.body:
                tops |= {part.name} if isinstance(part, (ast.FunctionDef, ast.ClassDef)) else bound_names(ast.Module([part], []))
            for node in ast.walk(tree):
                if isinstance(node, ast.FunctionDef):
                    inner = bound_names(ast.Module(node.body, [])) | {argument.arg for argument in node.args.args}
                    self.assertEqual(inner & tops, set(), f"{path.name}:{node.lineno}")

    def test_no_files_draw_from_one_another(self):
        drawn = {}
        for path, tree in trees():
            drawn[path.stem] = {node.module.partition(".")[2] for node in ast.walk(tree) if isinstance(node, ast.ImportFrom)}
        while drawn:
            free = [stem for stem in drawn if not drawn[stem] & set(drawn)]
            self.assertNotEqual(free, [], sorted(drawn))
            for stem in free:
                drawn.pop(stem)


class UseTest(unittest.TestCase):
    def test_walked_on_the_spot(self):
        for path, tree in trees():
            parents = parents_of(tree)
            for node in ast.walk(tree):
                method = node.func.attr if isinstance(node, ast.Call) and isinstance(node.func, ast.Attribute) else ""
                if called_name(node) in WALKED or method in WALKED_METHODS:
                    self.assertTrue(is_walked(node, parents[node]), f"{path.name}:{node.lineno}")

    def test_what_is_walked_is_not_changed(self):
        for place, loop in nodes_of(ast.For):
            walked = walked_texts(loop.iter)
            for part in loop.body:
                for node in ast.walk(part):
                    self.assertNotIn(changed_text(node), walked, place)

    def test_sets(self):
        for path, tree in trees():
            parents = parents_of(tree)
            for node in ast.walk(tree):
                if called_name(node) in ("set", "frozenset"):
                    parent = parents[node]
                    while isinstance(parent, ast.BinOp):
                        parent = parents[parent]
                    beside = isinstance(parent, ast.Compare) or called_name(parent) in ("sorted", "len") and not parent.keywords
                    self.assertTrue(beside, f"{path.name}:{node.lineno}")

    def test_methods_are_called_where_they_stand(self):
        own = {node.attr for place, node in nodes_of(ast.Attribute) if isinstance(node.ctx, ast.Store)}
        for path, tree in trees():
            parents = parents_of(tree)
            for node in ast.walk(tree):
                if isinstance(node, ast.Attribute) and node.attr in PYTHON_METHODS - own:
                    parent = parents[node]
                    called = isinstance(parent, ast.Call) and parent.func is node
                    as_key = isinstance(parent, ast.keyword) and parent.arg == "key"
                    self.assertTrue(called or as_key, f"{path.name}:{node.lineno}")

    def test_keywords(self):
        own = {node.name for place, node in nodes_of(ast.FunctionDef)}
        for place, node in nodes_of(ast.Call):
            if called_name(node) not in own:
                self.assertLessEqual({word.arg for word in node.keywords}, KEYWORDS.get(called_name(node), set()), place)

    def test_lists_and_dicts_of_the_top_are_only_read(self):
        held = {name for path, tree in trees() for name in top_values(tree)}
        for path, tree in trees():
            parents = parents_of(tree)
            for node in ast.walk(tree):
                if not isinstance(node, ast.Name) or node.id not in held or isinstance(node.ctx, ast.Store):
                    continue
                parent = parents[node]
                indexed = isinstance(parent, ast.Subscript) and parent.value is node and isinstance(parent.ctx, ast.Load)
                method = isinstance(parent, ast.Attribute) and parent.attr in READING
                read = isinstance(parent, (ast.Compare, ast.For, ast.comprehension)) or called_name(parent) in READERS
                self.assertTrue(indexed or method or read, f"{path.name}:{node.lineno}")

    def test_classes_are_not_kept_or_handed_on(self):
        classes = {node.name for place, node in nodes_of(ast.ClassDef)}
        for path, tree in trees():
            parents = parents_of(tree)
            for node in ast.walk(tree):
                if isinstance(node, ast.Name) and node.id in classes:
                    parent = parents[node]
                    called = isinstance(parent, ast.Call) and (parent.func is node or called_name(parent) == "isinstance")
                    method = isinstance(parent, ast.Attribute) and parent.attr == "__init__"
                    named = isinstance(parent, (ast.ClassDef, ast.ExceptHandler, ast.Raise))
                    self.assertTrue(called or method or named, f"{path.name}:{node.lineno}")

    def test_raised_on_the_spot_and_taken_by_name(self):
        own = {node.name for place, node in nodes_of(ast.ClassDef)}
        for place, node in nodes_of(ast.Raise):
            self.assertIn(called_name(node.exc), own, place)
        for place, node in nodes_of(ast.ExceptHandler):
            self.assertIsInstance(node.type, (ast.Name, ast.Tuple), place)
            self.assertNotIn(getattr(node.type, "id", ""), ("Exception", "TypeError"), place)

    def test_powers_have_a_written_exponent(self):
        for place, node in nodes_of(ast.BinOp):
            if isinstance(node.op, ast.Pow):
                self.assertIn(getattr(node.right, "value", None), range(65), place)
