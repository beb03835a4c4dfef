"""Holds the package to those rules of ../shared/LANGUAGE.md that can be seen from the code's shape."""

import ast
import builtins
import pathlib
import re
import unittest

PACKAGE = pathlib.Path(__file__).resolve().parent.parent / "commonforms"
FILES = sorted(path for path in PACKAGE.rglob("*") if path.is_file() and path.suffix != ".pyc")

STATEMENTS = (
    ast.Assign, ast.AugAssign, ast.If, ast.While, ast.For, ast.Return, ast.Break, ast.Continue, ast.Pass, ast.Raise,
    ast.Try, ast.Expr, ast.FunctionDef, ast.ClassDef, ast.ImportFrom,
)
EXPRESSIONS = (
    ast.Constant, ast.List, ast.Tuple, ast.Dict, ast.Set, ast.BinOp, ast.UnaryOp, ast.BoolOp, ast.Compare, ast.IfExp,
    ast.Call, ast.Attribute, ast.Subscript, ast.Slice, ast.ListComp, ast.JoinedStr, ast.FormattedValue, ast.Name,
    ast.Lambda,
)
OWN_NAMES = set("""
    len range enumerate zip min max sum abs sorted reversed int str bool list tuple dict set frozenset isinstance ord
    repr any all divmod Exception ValueError TypeError KeyError IndexError LookupError ZeroDivisionError
    ArithmeticError OverflowError RuntimeError NotImplementedError AttributeError StopIteration
""".split())
METHODS = set("""
    append clear copy count endswith extend find get index insert isalnum isalpha isdigit islower isspace isupper items
    join keys ljust lower lstrip partition pop remove replace reverse rfind rjust rpartition rsplit rstrip setdefault
    split splitlines startswith strip update upper values zfill bit_length
""".split())
WORDS = re.compile(
    r"\b(type|typing|typing_extensions|enum|Enum|IntEnum|StrEnum|Flag|IntFlag|Generic|Protocol|ABC|ABCMeta|namedtuple"
    r"|NamedTuple|TypedDict|TYPE_CHECKING|abstractmethod)\b|dataclass|overload|contextmanager"
)


def bound_names(tree):
    """Every name that a file gives a meaning to."""
    names = []
    for node in ast.walk(tree):
        if isinstance(node, (ast.FunctionDef, ast.ClassDef)):
            names.append(node.name)
        elif isinstance(node, ast.arg):
            names.append(node.arg)
        elif isinstance(node, ast.Name) and isinstance(node.ctx, ast.Store):
            names.append(node.id)
        elif isinstance(node, ast.alias):
            names.append(node.asname or node.name)
    return names


def top_names(tree):
    """The names that a file binds at its top, but for those it draws from others."""
    names = []
    for node in tree.body:
        if isinstance(node, (ast.FunctionDef, ast.ClassDef)):
            names.append(node.name)
        elif isinstance(node, ast.Assign):
            names += [target.id for target in node.targets]
    return names


def inner_names(tree):
    """Every parameter and local of a file."""
    names = []
    for node in ast.walk(tree):
        if isinstance(node, (ast.FunctionDef, ast.Lambda)):
            names += [argument.arg for argument in node.args.args]
            names += [
                inner.id for inner in ast.walk(node) if isinstance(inner, ast.Name) and isinstance(inner.ctx, ast.Store)
            ]
        elif isinstance(node, ast.ExceptHandler) and node.name:
            names.append(node.name)
    return names


def is_walk(node):
    """Whether this is a call whose answer is to be walked on the spot."""
    if not isinstance(node, ast.Call):
        return False
    if isinstance(node.func, ast.Name):
        return node.func.id in ("zip", "enumerate", "reversed", "range")
    return isinstance(node.func, ast.Attribute) and node.func.attr in ("items", "keys", "values")


def walked_on_the_spot(tree):
    """Every node that stands where something is walked on the spot."""
    nodes = []
    for node in ast.walk(tree):
        if isinstance(node, (ast.For, ast.comprehension)):
            nodes.append(node.iter)
        elif isinstance(node, ast.Call) and isinstance(node.func, ast.Name):
            if node.func.id in ("list", "tuple", "dict", "sorted", "sum", "any", "all", "enumerate", "zip"):
                nodes += node.args[:1]
    return nodes


def drawn_from(tree):
    return [node.module for node in ast.walk(tree) if isinstance(node, ast.ImportFrom)]


class Language(unittest.TestCase):
    def setUp(self):
        self.texts = {path: path.read_text(encoding="utf-8") for path in FILES}
        self.trees = {path: ast.parse(text) for path, text in self.texts.items()}

    def test_files(self):
        self.assertIn(PACKAGE / "__init__.py", FILES)
        for path in FILES:
            self.assertRegex(path.name, r"^(__init__|__main__|[a-z][a-z0-9_]*)\.py$")
            if path.name != "__init__.py":
                self.assertFalse(hasattr(builtins, path.stem), path)

    def test_signs_and_sizes(self):
        for path, text in self.texts.items():
            rows = text.split("\n")
            self.assertLessEqual(len(rows), 400, path)
            self.assertRegex(text, r"\A[ -~\n]*\Z", path)
            self.assertLessEqual(max(len(row) for row in rows), 120, path)
            self.assertIsNone(WORDS.search(text), path)

    def test_imports(self):
        for path, tree in self.trees.items():
            for node in ast.walk(tree):
                if isinstance(node, ast.ImportFrom):
                    self.assertEqual(node.level, 0, path)
                    self.assertTrue(node.module.startswith("commonforms."), path)
                    self.assertNotIn("*", [alias.name for alias in node.names], path)

    def test_names_are_drawn_from_the_file_that_defines_them(self):
        tops = {"commonforms." + path.stem: top_names(tree) for path, tree in self.trees.items()}
        for path, tree in self.trees.items():
            for node in ast.walk(tree):
                if isinstance(node, ast.ImportFrom):
                    for alias in node.names:
                        self.assertIn(alias.name, tops[node.module], path)
                        self.assertIsNone(alias.asname, path)

    def test_each_name_once(self):
        for path, tree in self.trees.items():
            drawn = [alias.name for node in tree.body if isinstance(node, ast.ImportFrom) for alias in node.names]
            tops = drawn + top_names(tree)
            self.assertEqual(sorted(tops), sorted(set(tops)), path)
            classes = [node.name for node in tree.body if isinstance(node, ast.ClassDef)]
            self.assertEqual(set(inner_names(tree)) & set(drawn + classes), set(), path)

    def test_walked_at_once(self):
        for path, tree in self.trees.items():
            spots = walked_on_the_spot(tree)
            for node in ast.walk(tree):
                if is_walk(node):
                    self.assertTrue(any(node is spot for spot in spots), f"{path}:{node.lineno}")

    def test_no_sets_and_no_letters_by_number(self):
        for path, tree in self.trees.items():
            for node in ast.walk(tree):
                self.assertNotIsInstance(node, ast.Set, path)
                if isinstance(node, ast.Name):
                    self.assertNotIn(node.id, ("set", "frozenset", "chr"), path)

    def test_no_two_files_draw_from_one_another(self):
        draws = {"commonforms." + path.stem: drawn_from(tree) for path, tree in self.trees.items()}
        self.assertEqual(draws["commonforms.__init__"], [])

        def walk(name, above):
            self.assertNotIn(name, above)
            for lower in draws[name]:
                walk(lower, above + [name])

        for name in draws:
            walk(name, [])

    def test_statements_and_expressions(self):
        for path, tree in self.trees.items():
            for node in ast.walk(tree):
                where = f"{path}:{getattr(node, 'lineno', 0)}"
                if isinstance(node, ast.stmt):
                    self.assertIsInstance(node, STATEMENTS, where)
                if isinstance(node, ast.expr):
                    self.assertIsInstance(node, EXPRESSIONS, where)
                self.hold_shape(node, where)

    def hold_shape(self, node, where):
        if isinstance(node, ast.Expr) and not isinstance(node.value, ast.Call):
            self.assertIsInstance(node.value.value, str, where)
        elif isinstance(node, (ast.For, ast.While)):
            self.assertEqual(node.orelse, [], where)
        elif isinstance(node, ast.Assign):
            self.assertEqual(len(node.targets), 1, where)
        elif isinstance(node, ast.ListComp):
            self.assertEqual(len(node.generators), 1, where)
            self.assertLessEqual(len(node.generators[0].ifs), 1, where)
        elif isinstance(node, ast.BinOp):
            self.assertNotIsInstance(node.op, (ast.Div, ast.MatMult), where)
        elif isinstance(node, ast.Constant):
            self.assertNotIsInstance(node.value, (float, complex, bytes), where)
            self.assertNotIn("%", str(node.value), where)
        elif isinstance(node, (ast.FunctionDef, ast.ClassDef)):
            self.assertEqual(node.decorator_list, [], where)
            if isinstance(node, ast.FunctionDef):
                self.assertLessEqual(node.end_lineno - node.lineno + 1, 40, where)
        elif isinstance(node, ast.arguments):
            self.assertFalse(node.vararg or node.kwarg or node.kwonlyargs or node.posonlyargs, where)

    def test_is_stands_beside_none_true_and_false(self):
        for path, tree in self.trees.items():
            for node in ast.walk(tree):
                if isinstance(node, ast.Compare) and any(isinstance(op, (ast.Is, ast.IsNot)) for op in node.ops):
                    self.assertIn(getattr(node.comparators[-1], "value", "other"), (None, True, False), path)

    def test_names(self):
        for path, tree in self.trees.items():
            bound = bound_names(tree)
            for name in bound:
                self.assertRegex(name, r"^[A-Za-z][A-Za-z0-9_]*$|^__init__$", path)
                self.assertFalse(hasattr(builtins, name), f"{path}: {name}")
            for node in ast.walk(tree):
                if isinstance(node, ast.Name) and isinstance(node.ctx, ast.Load):
                    self.assertTrue(node.id in bound or node.id in OWN_NAMES, f"{path}:{node.lineno} {node.id}")

    def test_methods(self):
        nodes = [node for tree in self.trees.values() for node in ast.walk(tree)]
        own = [node.name for node in nodes if isinstance(node, ast.FunctionDef)]
        for path, tree in self.trees.items():
            for node in ast.walk(tree):
                if isinstance(node, ast.Call) and isinstance(node.func, ast.Attribute):
                    self.assertIn(node.func.attr, METHODS | set(own), f"{path}:{node.lineno}")


if __name__ == "__main__":
    unittest.main()
