"""The rows of LANGUAGE.md that can be read off the package's files."""

import ast
import builtins
import pathlib
import re
import unittest

PACKAGE = pathlib.Path(__file__).resolve().parent.parent / "treelabels"

STATEMENTS = (ast.FunctionDef, ast.ClassDef, ast.ImportFrom, ast.Assign, ast.AugAssign, ast.If, ast.While, ast.For,
              ast.Return, ast.Break, ast.Continue, ast.Pass, ast.Raise, ast.Try, ast.Expr)
EXPRESSIONS = (ast.Constant, ast.List, ast.Tuple, ast.Dict, ast.Set, ast.BinOp, ast.UnaryOp, ast.BoolOp, ast.Compare,
               ast.IfExp, ast.Call, ast.Attribute, ast.Subscript, ast.Slice, ast.ListComp, ast.JoinedStr,
               ast.FormattedValue, ast.Name, ast.Lambda)
BUILT_IN = set("""len range enumerate zip min max sum abs sorted reversed int str bool list tuple dict set frozenset
    isinstance ord repr any all divmod Exception ValueError TypeError KeyError IndexError LookupError
    ZeroDivisionError ArithmeticError OverflowError RuntimeError NotImplementedError StopIteration""".split())
METHODS = set("""append clear copy count endswith extend find get index insert isalnum isalpha isdigit islower isspace
    isupper items join keys ljust lower lstrip partition pop remove replace reverse rfind rjust rpartition rsplit
    rstrip setdefault split splitlines startswith strip update upper values zfill bit_length""".split())
WORDS = r"\b(type|typing|typing_extensions|enum|Enum|IntEnum|StrEnum|Flag|IntFlag|Generic|Protocol|ABC|ABCMeta" \
        r"|namedtuple|NamedTuple|TypedDict|TYPE_CHECKING|abstractmethod)\b|dataclass|overload|contextmanager"


def sources():
    return {path: path.read_text(encoding="ascii") for path in sorted(PACKAGE.rglob("*.py"))}


def trees():
    return {path: ast.parse(source) for path, source in sources().items()}


def nodes(kind):
    return [(path, node) for path, tree in trees().items() for node in ast.walk(tree) if isinstance(node, kind)]


def bound_names(tree):
    names = set()
    for node in ast.walk(tree):
        if isinstance(node, (ast.FunctionDef, ast.ClassDef)):
            names.add(node.name)
        elif isinstance(node, ast.arg):
            names.add(node.arg)
        elif isinstance(node, ast.alias):
            names.add(node.name)
        elif isinstance(node, ast.Name) and isinstance(node.ctx, ast.Store):
            names.add(node.id)
    return names


def top_names(tree):
    names = []
    for node in tree.body:
        if isinstance(node, (ast.FunctionDef, ast.ClassDef)):
            names.append(node.name)
        elif isinstance(node, ast.Assign):
            names.append(node.targets[0].id)
    return names


def plain(node):
    if isinstance(node, ast.Constant):
        return True
    if isinstance(node, ast.UnaryOp) and isinstance(node.op, ast.USub):
        return isinstance(node.operand, ast.Constant)
    return isinstance(node, (ast.Tuple, ast.List)) and all(plain(one) for one in node.elts)


class Language(unittest.TestCase):
    def test_files(self):
        names = [path.name for path in PACKAGE.iterdir() if path.name != "__pycache__"]
        self.assertIn("__init__.py", names)
        for name in names:
            self.assertRegex(name, r"\A[a-z][a-z0-9_]*\.py\Z|\A__init__\.py\Z")

    def test_signs_and_sizes(self):
        for path, source in sources().items():
            rows = source.split("\n")
            self.assertLessEqual(len(rows), 400, path)
            for number, row in enumerate(rows, 1):
                self.assertRegex(row, r"\A[ -~]{0,120}\Z", f"{path}:{number}")
                self.assertIsNone(re.search(WORDS, row), f"{path}:{number}")
        for path, node in nodes(ast.FunctionDef):
            self.assertLessEqual(node.end_lineno - node.lineno + 1, 40, f"{path}: {node.name}")

    def test_imports(self):
        for path, node in nodes((ast.Import, ast.ImportFrom)):
            self.assertIsInstance(node, ast.ImportFrom, path)
            self.assertTrue(node.level == 0 and node.module.startswith("treelabels."), path)
            home = PACKAGE / (node.module.split(".")[1] + ".py")
            for alias in node.names:
                self.assertIsNone(alias.asname)
                self.assertIn(alias.name, top_names(ast.parse(home.read_text())), path)

    def test_top_of_files(self):
        for path, tree in trees().items():
            bound = top_names(tree)
            self.assertEqual(len(bound), len(set(bound)), path)
            for place, node in enumerate(tree.body):
                docstring = place == 0 and isinstance(node, ast.Expr)
                value = isinstance(node, ast.Assign) and plain(node.value)
                self.assertTrue(docstring or value or isinstance(node, (ast.ImportFrom, ast.FunctionDef, ast.ClassDef)),
                                f"{path}:{node.lineno}")

    def test_statements_and_expressions(self):
        for path, node in nodes((ast.stmt, ast.expr)):
            where = f"{path}:{node.lineno}"
            self.assertIsInstance(node, STATEMENTS + EXPRESSIONS, where)
            if isinstance(node, ast.Assign):
                self.assertEqual(len(node.targets), 1, where)
                self.assertNotIsInstance(node.targets[0], (ast.Tuple, ast.List), where)
            if isinstance(node, (ast.While, ast.For)):
                self.assertEqual(node.orelse, [], where)
            if isinstance(node, ast.BinOp):
                self.assertNotIsInstance(node.op, ast.Div, where)
            if isinstance(node, ast.Constant):
                self.assertIn(type(node.value), (int, str, bool, type(None)), where)
            if isinstance(node, (ast.FunctionDef, ast.ClassDef)):
                self.assertEqual(node.decorator_list, [], where)

    def test_names(self):
        for path, tree in trees().items():
            bound = bound_names(tree)
            self.assertEqual(bound & set(dir(builtins)), set(), path)
            for name in bound - {"__init__"}:
                self.assertRegex(name, r"\A[A-Za-z][A-Za-z0-9_]*\Z", path)
            for node in ast.walk(tree):
                if isinstance(node, ast.Name) and isinstance(node.ctx, ast.Load):
                    self.assertIn(node.id, bound | BUILT_IN, f"{path}:{node.lineno}")

    def test_methods(self):
        own = {node.name for path, node in nodes(ast.FunctionDef)}
        for path, node in nodes(ast.Call):
            if isinstance(node.func, ast.Attribute):
                self.assertIn(node.func.attr, METHODS | own, f"{path}:{node.lineno}")


if __name__ == "__main__":
    unittest.main()
