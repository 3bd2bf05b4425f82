"""What of ../shared/LANGUAGE.md can be seen row by row, held against the package's own files."""

import ast
import builtins
import pathlib
import re
import unittest

FOLDER = pathlib.Path(__file__).resolve().parent.parent / "primefold"
FILES = sorted(path for path in FOLDER.iterdir() if path.name != "__pycache__")

STATEMENTS = (ast.FunctionDef, ast.ClassDef, ast.ImportFrom, ast.Assign, ast.AnnAssign, ast.AugAssign, ast.If,
              ast.While, ast.For, ast.Return, ast.Break, ast.Continue, ast.Pass, ast.Raise, ast.Try, ast.Expr)
BARRED = (ast.SetComp, ast.DictComp, ast.GeneratorExp, ast.NamedExpr, ast.Starred, ast.Div)
ALLOWED = set("""len range enumerate zip min max sum abs sorted reversed int str bool list tuple dict set frozenset
    isinstance ord repr any all divmod Exception ValueError TypeError KeyError IndexError LookupError ZeroDivisionError
    ArithmeticError OverflowError RuntimeError NotImplementedError AttributeError StopIteration""".split())
WALKS = ("range", "zip", "enumerate", "reversed")
NO_ATTRIBUTES = ("format", "format_map", "mro", "register", "elements", "open", "input", "version_info", "sort")
WORDS = re.compile(r"\b(type|typing|typing_extensions|enum|Enum|IntEnum|StrEnum|Flag|IntFlag|Generic|Protocol|ABC|ABCMeta"
                   r"|namedtuple|NamedTuple|TypedDict|TYPE_CHECKING|abstractmethod)\b|dataclass|overload|contextmanager")


class Language(unittest.TestCase):
    def nodes(self):
        for path in FILES:
            for node in ast.walk(ast.parse(path.read_text())):
                yield "%s:%s" % (path.name, getattr(node, "lineno", 0)), node

    def test_files(self):
        for path in FILES:
            self.assertRegex(path.name, r"^([a-z][a-z0-9_]*|__init__)\.py$")
            self.assertNotIn(path.stem, dir(builtins))
        self.assertIn("__init__.py", [path.name for path in FILES])

    def test_rows(self):
        for path in FILES:
            rows = path.read_bytes().decode("ascii").split("\n")
            self.assertLessEqual(len(rows), 400, path.name)
            for place, row in enumerate(rows, 1):
                self.assertRegex(row, r"^[ -~]{0,120}$", (path.name, place))
                self.assertIsNone(WORDS.search(row), (path.name, place))

    def test_imports(self):
        for place, node in self.nodes():
            self.assertNotIsInstance(node, ast.Import, place)
            if isinstance(node, ast.ImportFrom):
                self.assertEqual(node.level, 0, place)
                self.assertRegex(node.module, r"^(primefold\..+|__future__)$", place)

    def test_statements(self):
        for place, node in self.nodes():
            self.assertNotIsInstance(node, BARRED, place)
            if isinstance(node, ast.stmt):
                self.assertIsInstance(node, STATEMENTS, place)
            if isinstance(node, ast.Assign):
                self.assertEqual(len(node.targets), 1, place)
            if isinstance(node, (ast.For, ast.While)):
                self.assertEqual(node.orelse, [], place)
            if isinstance(node, ast.Assign) and isinstance(node.value, ast.Call):
                self.assertNotIn(getattr(node.value.func, "id", ""), WALKS, place)

    def test_functions(self):
        for place, node in self.nodes():
            if isinstance(node, ast.FunctionDef):
                self.assertLessEqual(node.end_lineno - node.lineno + 1, 40, place)
                self.assertEqual(node.decorator_list, [], place)
                self.assertIsNone(node.args.vararg or node.args.kwarg, place)
                self.assertEqual(node.args.kwonlyargs, [], place)

    def test_names(self):
        for place, node in self.nodes():
            if isinstance(node, ast.Name) and node.id in dir(builtins):
                self.assertIn(node.id, ALLOWED, place)
                self.assertIsInstance(node.ctx, ast.Load, place)
            if isinstance(node, ast.arg):
                self.assertNotIn(node.arg, dir(builtins), place)
            if isinstance(node, ast.Name):
                self.assertRegex(node.id, r"^([A-Za-z][A-Za-z0-9_]*|__all__|__version__)$", place)
            if isinstance(node, ast.Attribute):
                self.assertNotIn(node.attr, NO_ATTRIBUTES, place)
