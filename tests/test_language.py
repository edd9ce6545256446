"""The package's files keep to the part of Python that the program is written in (its plainest rules)."""

import ast
import builtins
import pathlib
import re
import unittest

FOLDER = pathlib.Path(__file__).resolve().parent.parent / "beatplans"
OWN = set(
    "len range enumerate zip min max sum abs sorted reversed int str bool bytes list tuple dict set frozenset "
    "isinstance ord repr any all divmod Exception ValueError TypeError KeyError IndexError LookupError "
    "ZeroDivisionError ArithmeticError OverflowError RuntimeError NotImplementedError AttributeError StopIteration".split()
)
METHODS = {"__init__", "__eq__", "__repr__", "__str__", "__len__"}
WORDS = (
    "type|typing|typing_extensions|enum|Enum|IntEnum|StrEnum|Flag|IntFlag|Generic|Protocol|ABC|ABCMeta|namedtuple|"
    "NamedTuple|TypedDict|TYPE_CHECKING|abstractmethod|register|mro|elements|open|input|version_info"
)
PYTHON_METHODS = set(
    "append clear copy count endswith extend find get index insert isalnum isalpha isdigit islower isspace isupper items "
    "join keys ljust lower lstrip partition pop remove replace reverse rfind rjust rpartition rsplit rstrip setdefault "
    "split splitlines startswith strip update upper values zfill bit_length".split()
)
KEYWORDS = {
    "sorted": {"key", "reverse"}, "min": {"key", "default"}, "max": {"key", "default"}, "sum": {"start"}, "enumerate": {"start"},
    "zip": {"strict"},
}
OUT = (
    ast.With, ast.Match, ast.Global, ast.Nonlocal, ast.Yield, ast.YieldFrom, ast.Await, ast.AsyncFunctionDef,
    ast.AsyncFor, ast.AsyncWith, ast.GeneratorExp, ast.NamedExpr, ast.Div, ast.MatMult, ast.Import, ast.TryStar,
)


def files():
    return sorted(FOLDER.glob("*.py"))


def trees():
    return [(path, ast.parse(path.read_text())) for path in files()]


def is_walk(node):
    """Whether it is a call of which what comes is to be walked on the spot."""
    if not isinstance(node, ast.Call):
        return False
    if isinstance(node.func, ast.Name):
        return node.func.id in ("range", "zip", "enumerate", "reversed")
    return isinstance(node.func, ast.Attribute) and node.func.attr in ("items", "keys", "values")


def walked_on_the_spot(tree):
    """All that stands where it is walked at once."""
    for node in ast.walk(tree):
        if isinstance(node, (ast.For, ast.comprehension)):
            yield node.iter
        elif isinstance(node, ast.Call) and isinstance(node.func, ast.Name) and node.args:
            if node.func.id in ("list", "tuple", "dict", "sorted", "sum", "any", "all", "enumerate", "zip", "bytes"):
                yield node.args[0]
            elif node.func.id in ("min", "max") and len(node.args) == 1:
                yield node.args[0]
        elif isinstance(node, ast.Compare) and isinstance(node.ops[0], (ast.In, ast.NotIn)):
            yield node.comparators[0]


def bound_in(tree):
    """Each name that is bound by an assignment, a loop or a parameter."""
    for node in ast.walk(tree):
        if isinstance(node, ast.Name) and not isinstance(node.ctx, ast.Load):
            yield node.id
        elif isinstance(node, ast.arg):
            yield node.arg
        elif isinstance(node, ast.ExceptHandler) and node.name:
            yield node.name


class Language(unittest.TestCase):

    def test_files(self):
        self.assertIn(FOLDER / "__init__.py", files())
        for path in FOLDER.iterdir():
            if path.name != "__pycache__":
                self.assertRegex(path.name, r"^[a-z0-9_]+\.py$")

    def test_signs_and_sizes(self):
        for path in files():
            lines = path.read_text().split("\n")
            self.assertLessEqual(len(lines), 401, path)
            for line in lines:
                self.assertLessEqual(len(line), 120, path)
                self.assertRegex(line, r"^[ -~]*$", path)

    def test_words_that_stand_nowhere(self):
        for path in files():
            text = path.read_text()
            self.assertIsNone(re.search(rf"\b({WORDS})\b", text), path)
            self.assertIsNone(re.search("dataclass|overload|contextmanager", text), path)

    def test_imports(self):
        tops = {}
        draws = {}
        for path, tree in trees():
            made = [node.name for node in tree.body if isinstance(node, (ast.FunctionDef, ast.ClassDef))]
            made += [target.id for node in tree.body if isinstance(node, ast.Assign) for target in node.targets]
            self.assertEqual(len(made), len(set(made)), path)
            tops[f"beatplans.{path.stem}"] = made
        for path, tree in trees():
            inner = [node for node in ast.walk(tree) if isinstance(node, ast.ImportFrom)]
            self.assertEqual(inner, [node for node in tree.body if isinstance(node, ast.ImportFrom)], path)
            for node in inner:
                self.assertEqual(node.level, 0, path)
                for alias in node.names:
                    self.assertIn(alias.name, tops[node.module], path)
            draws[f"beatplans.{path.stem}"] = [node.module for node in inner]
        while draws:
            free = [name for name in draws if not set(draws[name]) & set(draws)]
            self.assertTrue(free, "files that draw from one another")
            for name in free:
                del draws[name]

    def test_rows_and_values(self):
        for path, tree in trees():
            for node in ast.walk(tree):
                where = f"{path}:{getattr(node, 'lineno', 0)}"
                self.assertNotIsInstance(node, OUT, where)
                if isinstance(node, ast.Constant):
                    self.assertNotIsInstance(node.value, (float, complex), where)
                    self.assertNotIn("%", node.value if isinstance(node.value, str) else "", where)
                if isinstance(node, ast.Starred):
                    self.assertIsInstance(node.ctx, ast.Store, where)
                if isinstance(node, (ast.For, ast.While)):
                    self.assertEqual(node.orelse, [], where)
                if isinstance(node, ast.Compare):
                    for sign, right in zip(node.ops, node.comparators):
                        if isinstance(sign, (ast.Is, ast.IsNot)):
                            self.assertIsInstance(right, ast.Constant, where)
                if isinstance(node, ast.BinOp) and isinstance(node.op, ast.Pow):
                    self.assertIsInstance(node.right, ast.Constant, where)

    def test_walks(self):
        for path, tree in trees():
            spots = list(walked_on_the_spot(tree))
            for node in ast.walk(tree):
                if is_walk(node):
                    self.assertIn(node, spots, f"{path}:{node.lineno}")

    def test_handlers_and_raises(self):
        for path, tree in trees():
            for node in ast.walk(tree):
                if isinstance(node, ast.ExceptHandler):
                    self.assertIsInstance(node.type, ast.Name, path)
                    self.assertNotIn(node.type.id, ("Exception", "TypeError"), path)
                if isinstance(node, ast.Raise) and node.exc:
                    self.assertIsInstance(node.exc, ast.Call, f"{path}:{node.lineno}")

    def test_defs_and_classes(self):
        for path, tree in trees():
            for node in ast.walk(tree):
                where = f"{path}:{getattr(node, 'lineno', 0)}"
                if isinstance(node, ast.FunctionDef):
                    self.assertLessEqual(node.end_lineno - node.lineno + 1, 40, where)
                    self.assertEqual(node.decorator_list, [], where)
                    self.assertIsNone(node.args.vararg or node.args.kwarg, where)
                    self.assertEqual(node.args.posonlyargs, [], where)
                    self.assertTrue(node.name in METHODS or re.match("[A-Za-z]", node.name), where)
                if isinstance(node, ast.ClassDef):
                    self.assertIn(node, tree.body, where)
                    self.assertLessEqual(len(node.bases), 1, where)
                    for row in node.body:
                        self.assertIsInstance(row, (ast.FunctionDef, ast.Expr, ast.Pass), where)

    def test_methods_and_values(self):
        methods, values = set(), set()
        for path, tree in trees():
            for held in [node for node in tree.body if isinstance(node, ast.ClassDef)]:
                methods |= {row.name for row in held.body if isinstance(row, ast.FunctionDef)}
                values |= {
                    node.attr for node in ast.walk(held) if isinstance(node, ast.Attribute) and isinstance(node.ctx, ast.Store)
                }
        self.assertEqual(methods & values, set())
        for path, tree in trees():
            called = [node.func for node in ast.walk(tree) if isinstance(node, ast.Call)]
            for node in ast.walk(tree):
                if isinstance(node, ast.Attribute):
                    own = PYTHON_METHODS | methods if node in called else values
                    self.assertIn(node.attr, own, f"{path}:{node.lineno}")

    def test_keywords(self):
        for path, tree in trees():
            for node in ast.walk(tree):
                if isinstance(node, ast.Call) and node.keywords:
                    self.assertIsInstance(node.func, ast.Name, f"{path}:{node.lineno}")
                    allowed = KEYWORDS.get(node.func.id, set())
                    self.assertLessEqual({word.arg for word in node.keywords}, allowed, f"{path}:{node.lineno}")

    def test_tops_are_only_read(self):
        """A list or dict of a file's top holds no list or dict, and is asked by an index or by in alone."""
        for path, tree in trees():
            tops = [node for node in tree.body if isinstance(node, ast.Assign) and isinstance(node.value, (ast.List, ast.Dict))]
            for top in tops:
                inner = [node for node in ast.walk(top.value) if isinstance(node, (ast.List, ast.Dict, ast.Set))]
                self.assertEqual(inner, [top.value], path)
                name = top.targets[0].id
                asked = [node.value for node in ast.walk(tree) if isinstance(node, ast.Subscript) and isinstance(node.ctx, ast.Load)]
                asked += [right for node in ast.walk(tree) if isinstance(node, ast.Compare) for right in node.comparators]
                for node in ast.walk(tree):
                    if isinstance(node, ast.Name) and node.id == name and isinstance(node.ctx, ast.Load):
                        self.assertIn(node, asked, f"{path}:{node.lineno}")

    def test_names(self):
        python = set(dir(builtins))
        for path, tree in trees():
            drawn = {alias.asname or alias.name for node in tree.body if isinstance(node, ast.ImportFrom)
                     for alias in node.names}
            classes = {node.name for node in tree.body if isinstance(node, ast.ClassDef)}
            for name in bound_in(tree):
                self.assertNotIn(name, python | drawn | classes, path)
                self.assertRegex(name, "^[A-Za-z]", path)
            for node in ast.walk(tree):
                if isinstance(node, ast.Name) and node.id in python:
                    self.assertIn(node.id, OWN, f"{path}:{node.lineno}")


if __name__ == "__main__":
    unittest.main()
