"""The rules of the language that a walk over the package's files can see."""

import ast
import builtins
import pathlib
import re
import unittest

PACKAGE = pathlib.Path(__file__).resolve().parent.parent / "meterbook"

OWN_NAMES = set(
    "len range enumerate zip min max sum abs sorted reversed int str bool list tuple dict set frozenset"
    " isinstance ord repr any all divmod Exception ValueError TypeError KeyError IndexError LookupError"
    " ZeroDivisionError ArithmeticError OverflowError RuntimeError NotImplementedError AttributeError"
    " StopIteration".split()
)
METHODS = set(
    "append clear copy count endswith extend find get index insert isalnum isalpha isdigit islower isspace"
    " isupper items join keys ljust lower lstrip partition pop remove replace reverse rfind rjust rpartition"
    " rsplit rstrip setdefault split splitlines startswith strip update upper values zfill bit_length".split()
)
DOUBLE = ("__init__", "__eq__", "__repr__", "__str__", "__len__")
WORDS = re.compile(
    r"\b(type|typing|typing_extensions|enum|Enum|IntEnum|StrEnum|Flag|IntFlag|Generic|Protocol|ABC|ABCMeta"
    r"|namedtuple|NamedTuple|TypedDict|TYPE_CHECKING|abstractmethod)\b|dataclass|overload|contextmanager"
)
UNUSED = set("register mro elements open input version_info with_traceback add_note format format_map".split())
STATEMENTS = (
    ast.Assign, ast.AugAssign, ast.If, ast.While, ast.For, ast.Return, ast.Break, ast.Continue, ast.Pass,
    ast.Raise, ast.Try, ast.Expr, ast.FunctionDef, ast.ClassDef, ast.ImportFrom,
)
EXPRESSIONS = (
    ast.Constant, ast.Name, ast.Attribute, ast.Subscript, ast.Slice, ast.Call, ast.BinOp, ast.UnaryOp,
    ast.BoolOp, ast.Compare, ast.IfExp, ast.List, ast.Tuple, ast.Dict, ast.Set, ast.ListComp, ast.Lambda,
    ast.JoinedStr, ast.FormattedValue,
)


WALKS = set("zip enumerate reversed range".split())
WALK_METHODS = set("items keys values".split())
WALKERS = set("list tuple dict sorted sum any all enumerate zip min max".split())
KEYWORDS = {"sorted": {"key", "reverse"}, "min": {"key", "default"}, "max": {"key", "default"}, "sum": {"start"},
            "enumerate": {"start"}, "zip": {"strict"}}
HANDLED = set("KeyError ZeroDivisionError StopIteration".split())
NO_VALUES = set(
    "items keys values pop update append clear extend insert remove reverse setdefault sort args encode format".split()
)


def package_files():
    return sorted(path for path in PACKAGE.rglob("*") if path.is_file() and "__pycache__" not in path.parts)


def bound_names(tree):
    """Every name that a file binds, however it does."""
    found = set()
    for node in ast.walk(tree):
        if isinstance(node, (ast.FunctionDef, ast.ClassDef)):
            found.add(node.name)
        elif isinstance(node, ast.arg):
            found.add(node.arg)
        elif isinstance(node, ast.Name) and isinstance(node.ctx, ast.Store):
            found.add(node.id)
        elif isinstance(node, ast.ImportFrom):
            found.update(alias.asname or alias.name for alias in node.names)
        elif isinstance(node, ast.ExceptHandler) and node.name:
            found.add(node.name)
    return found


def local_names(tree):
    """Parameters and locals alone."""
    found = set()
    for function in ast.walk(tree):
        if isinstance(function, (ast.FunctionDef, ast.Lambda)):
            for node in ast.walk(function):
                if isinstance(node, ast.arg):
                    found.add(node.arg)
                elif isinstance(node, ast.Name) and isinstance(node.ctx, ast.Store):
                    found.add(node.id)
    return found


def object_values(trees):
    """Every name that is given a value on an object."""
    return {
        node.attr
        for tree in trees
        for node in ast.walk(tree) if isinstance(node, ast.Attribute) and isinstance(node.ctx, ast.Store)
    }


def walked_at_once(tree):
    """The calls that stand where a walk may stand."""
    found = []
    for node in ast.walk(tree):
        if isinstance(node, (ast.For, ast.comprehension)):
            found.append(node.iter)
        elif isinstance(node, ast.Call) and isinstance(node.func, ast.Name) and node.func.id in WALKERS and node.args:
            found.append(node.args[0])
    return found


def own_methods(trees):
    return {
        method.name
        for tree in trees
        for node in ast.walk(tree) if isinstance(node, ast.ClassDef)
        for method in node.body if isinstance(method, ast.FunctionDef)
    }


class LanguageTest(unittest.TestCase):
    def setUp(self):
        self.texts = {path: path.read_text(encoding="utf-8") for path in package_files()}
        self.trees = {path: ast.parse(text) for path, text in self.texts.items()}

    def nodes(self, *kinds):
        for path, tree in self.trees.items():
            for node in ast.walk(tree):
                if isinstance(node, kinds):
                    yield f"{path.name}:{getattr(node, 'lineno', 0)}", node

    def test_files(self):
        self.assertTrue((PACKAGE / "__init__.py").is_file())
        for path in self.texts:
            self.assertRegex(path.name, r"^[a-z0-9_]+\.py$")
            self.assertEqual(path.parent, PACKAGE)
            self.assertNotIn(path.stem, dir(builtins))

    def test_signs_rows_and_words(self):
        for path, text in self.texts.items():
            self.assertRegex(text, r"\A[ -~\n]*\Z", path.name)
            rows = text.split("\n")
            self.assertLessEqual(len(rows) - 1, 400, path.name)
            for place, row in enumerate(rows, start=1):
                self.assertLessEqual(len(row), 120, f"{path.name}:{place}")
                self.assertIsNone(WORDS.search(row), f"{path.name}:{place}")

    def test_statements_and_expressions(self):
        for where, node in self.nodes(ast.stmt):
            self.assertIsInstance(node, STATEMENTS, where)
        for where, node in self.nodes(ast.expr):
            self.assertIsInstance(node, EXPRESSIONS, where)
        for where, node in self.nodes(ast.Assign):
            self.assertEqual(len(node.targets), 1, where)
        for where, node in self.nodes(ast.For, ast.While):
            self.assertEqual(node.orelse, [], where)
        for where, node in self.nodes(ast.Try):
            self.assertEqual(node.finalbody, [], where)
        for where, node in self.nodes(ast.ListComp):
            self.assertEqual(len(node.generators), 1, where)
            self.assertLessEqual(len(node.generators[0].ifs), 1, where)
        for where, node in self.nodes(ast.Expr):
            self.assertIsInstance(node.value, (ast.Call, ast.Constant), where)

    def test_values(self):
        for where, node in self.nodes(ast.Constant):
            self.assertIn(type(node.value), (int, str, bool, type(None)), where)
            if isinstance(node.value, str):
                self.assertNotIn("%", node.value, where)
        for where, node in self.nodes(ast.BinOp, ast.AugAssign):
            self.assertNotIsInstance(node.op, (ast.Div, ast.MatMult), where)
            if isinstance(node.op, ast.Pow):
                self.assertIsInstance(node.right, ast.Constant, where)
                self.assertTrue(0 <= node.right.value <= 64, where)
        for where, node in self.nodes(ast.Compare):
            for operator, right in zip(node.ops, node.comparators):
                if isinstance(operator, (ast.Is, ast.IsNot)):
                    self.assertIsInstance(right, ast.Constant, where)
                    self.assertIn(right.value, (None, True, False), where)
        for where, node in self.nodes(ast.FormattedValue):
            self.assertIsInstance(node.value, ast.Name, where)
            self.assertIsNone(node.format_spec, where)

    def test_functions(self):
        for where, node in self.nodes(ast.FunctionDef):
            self.assertLessEqual(node.end_lineno - node.lineno + 1, 40, where)
            self.assertEqual(node.decorator_list, [], where)
            self.assertIsNone(node.args.vararg or node.args.kwarg, where)
            self.assertEqual(node.args.kwonlyargs + node.args.posonlyargs, [], where)

    def test_classes(self):
        for where, node in self.nodes(ast.ClassDef):
            self.assertLessEqual(len(node.bases), 1, where)
            self.assertEqual(node.keywords + node.decorator_list, [], where)
            for place, part in enumerate(node.body):
                docstring = place == 0 and isinstance(part, ast.Expr)
                self.assertTrue(docstring or isinstance(part, (ast.FunctionDef, ast.Pass)), where)

    def test_tops(self):
        for path, tree in self.trees.items():
            names = []
            for place, node in enumerate(tree.body):
                docstring = place == 0 and isinstance(node, ast.Expr)
                plain = isinstance(node, (ast.ImportFrom, ast.FunctionDef, ast.ClassDef, ast.Assign))
                self.assertTrue(docstring or plain, f"{path.name}:{node.lineno}")
                if isinstance(node, (ast.FunctionDef, ast.ClassDef)):
                    names.append(node.name)
                elif isinstance(node, ast.Assign):
                    names.append(node.targets[0].id)
                elif isinstance(node, ast.ImportFrom):
                    names.extend(alias.name for alias in node.names)
            self.assertEqual(len(names), len(set(names)), path.name)

    def test_imports(self):
        drawn = {path.stem: set() for path in self.trees}
        defined = {
            path.stem: {node.name for node in tree.body if isinstance(node, (ast.FunctionDef, ast.ClassDef))}
            | {node.targets[0].id for node in tree.body if isinstance(node, ast.Assign)}
            for path, tree in self.trees.items()
        }
        for path, tree in self.trees.items():
            for node in ast.walk(tree):
                if isinstance(node, ast.ImportFrom):
                    self.assertRegex(node.module, r"^meterbook\.[a-z]+$", path.name)
                    self.assertEqual(node.level, 0, path.name)
                    source = node.module.partition(".")[2]
                    drawn[path.stem].add(source)
                    for alias in node.names:
                        self.assertIn(alias.name, defined[source], path.name)
        while drawn:
            free = [name for name in drawn if not drawn[name] & set(drawn)]
            self.assertTrue(free, "files draw from one another")
            for name in free:
                drawn.pop(name)

    def test_names(self):
        for path, tree in self.trees.items():
            bound = bound_names(tree)
            for name in bound:
                self.assertTrue(name in DOUBLE or re.fullmatch(r"[A-Za-z][A-Za-z0-9_]*", name), name)
            outer = {node.name for node in tree.body if isinstance(node, (ast.FunctionDef, ast.ClassDef))}
            outer |= {alias.name for node in tree.body if isinstance(node, ast.ImportFrom) for alias in node.names}
            self.assertEqual(local_names(tree) & (outer | set(dir(builtins))), set(), path.name)
            for node in ast.walk(tree):
                if isinstance(node, ast.Name):
                    self.assertIn(node.id, bound | OWN_NAMES, f"{path.name}:{node.lineno}")
                    self.assertNotIn(node.id, UNUSED, f"{path.name}:{node.lineno}")

    def test_methods(self):
        known = METHODS | own_methods(self.trees.values())
        for where, node in self.nodes(ast.Call):
            if isinstance(node.func, ast.Attribute):
                self.assertIn(node.func.attr, known, where)
        for where, node in self.nodes(ast.Attribute):
            self.assertNotIn(node.attr, UNUSED, where)

    def test_top_values_are_plain(self):
        for path, tree in self.trees.items():
            for node in tree.body:
                if isinstance(node, ast.Assign):
                    value = ast.literal_eval(node.value)
                    self.assertIn(type(value), (int, str, bool, type(None), tuple), f"{path.name}:{node.lineno}")

    def test_methods_and_values_are_apart(self):
        values = object_values(self.trees.values())
        self.assertEqual(values & own_methods(self.trees.values()), set())
        self.assertEqual(values & NO_VALUES, set())

    def test_errors_taken_and_raised(self):
        errors = {node.name for node in self.trees[PACKAGE / "errors.py"].body if isinstance(node, ast.ClassDef)}
        for where, node in self.nodes(ast.ExceptHandler):
            self.assertIsInstance(node.type, ast.Name, where)
            self.assertIn(node.type.id, errors | HANDLED, where)
        for where, node in self.nodes(ast.Raise):
            self.assertIsInstance(node.exc, ast.Call, where)
            self.assertIn(node.exc.func.id, errors, where)

    def test_walked_at_once(self):
        for path, tree in self.trees.items():
            allowed = walked_at_once(tree)
            for node in ast.walk(tree):
                if isinstance(node, ast.Call):
                    name = getattr(node.func, "id", None)
                    method = getattr(node.func, "attr", None)
                    if name in WALKS or method in WALK_METHODS:
                        self.assertIn(node, allowed, f"{path.name}:{node.lineno}")

    def test_python_s_own_are_called_and_methods_too(self):
        for path, tree in self.trees.items():
            called = [node.func for node in ast.walk(tree) if isinstance(node, ast.Call)]
            bases = [base for node in ast.walk(tree) if isinstance(node, ast.ClassDef) for base in node.bases]
            for node in ast.walk(tree):
                if isinstance(node, ast.Name) and node.id in OWN_NAMES:
                    self.assertIn(node, called + bases, f"{path.name}:{node.lineno}")
                if isinstance(node, ast.Attribute) and node.attr in METHODS | own_methods([tree]):
                    self.assertIn(node, called, f"{path.name}:{node.lineno}")

    def test_keywords(self):
        for where, node in self.nodes(ast.Call):
            for keyword in node.keywords:
                self.assertIn(keyword.arg, KEYWORDS.get(getattr(node.func, "id", None), set()), where)

    def test_no_sets_and_no_annotations(self):
        for where, node in self.nodes(ast.Set):
            self.fail(where)
        for where, node in self.nodes(ast.Name):
            self.assertNotIn(node.id, ("set", "frozenset"), where)
        for where, node in self.nodes(ast.arg):
            self.assertIsNone(node.annotation, where)
