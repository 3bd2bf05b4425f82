"""What of ../shared/LANGUAGE.md can be seen row by row, held against the package's own files."""

import ast
import builtins
import pathlib
import re
import unittest

FOLDER = pathlib.Path(__file__).resolve().parent.parent / "primefold"
FILES = sorted(path for path in FOLDER.iterdir() if path.name != "__pycache__")

STATEMENTS = (ast.FunctionDef, ast.ClassDef, ast.ImportFrom, ast.Assign, ast.AnnAssign, ast.AugAssign, ast.If,
              ast.While, ast.For, ast.Return, ast.Break, ast.Continue, ast.Pass, ast.Raise, ast.Try, ast.Expr)
BARRED = (ast.SetComp, ast.DictComp, ast.GeneratorExp, ast.NamedExpr, ast.Starred, ast.Div)
ALLOWED = set("""len range enumerate zip min max sum abs sorted reversed int str bool list tuple dict set frozenset
    isinstance ord repr any all divmod Exception ValueError TypeError KeyError IndexError LookupError ZeroDivisionError
    ArithmeticError OverflowError RuntimeError NotImplementedError AttributeError StopIteration""".split())
METHODS = set("""append clear copy count endswith extend find get index insert isalnum isalpha isdigit islower isspace
    isupper items join keys ljust lower lstrip partition pop remove replace reverse rfind rjust rpartition rsplit rstrip
    setdefault split splitlines startswith strip update upper values zfill bit_length""".split())
WALKS = ("range", "zip", "enumerate", "reversed")
NO_ATTRIBUTES = ("format", "format_map", "mro", "register", "elements", "open", "input", "version_info", "sort")
WORDS = re.compile(r"\b(type|typing|typing_extensions|enum|Enum|IntEnum|StrEnum|Flag|IntFlag|Generic|Protocol|ABC|ABCMeta"
                   r"|namedtuple|NamedTuple|TypedDict|TYPE_CHECKING|abstractmethod)\b|dataclass|overload|contextmanager")


class Language(unittest.TestCase):
    def nodes(self):
        for path in FILES:
            for node in ast.walk(ast.parse(path.read_text())):
                yield "%s:%s" % (path.name, getattr(node, "lineno", 0)), node

    def test_files(self):
        for path in FILES:
            self.assertRegex(path.name, r"^([a-z][a-z0-9_]*|__init__)\.py$")
            self.assertNotIn(path.stem, dir(builtins))
        self.assertIn("__init__.py", [path.name for path in FILES])

    def test_rows(self):
        for path in FILES:
            rows = path.read_bytes().decode("ascii").split("\n")
            self.assertLessEqual(len(rows), 400, path.name)
            for place, row in enumerate(rows, 1):
                self.assertRegex(row, r"^[ -~]{0,120}$", (path.name, place))
                self.assertIsNone(WORDS.search(row), (path.name, place))

    def test_imports(self):
        for place, node in self.nodes():
            self.assertNotIsInstance(node, ast.Import, place)
            if isinstance(node, ast.ImportFrom):
                self.assertEqual(node.level, 0, place)
                self.assertRegex(node.module, r"^(primefold\..+|__future__)$", place)

    def test_statements(self):
        for place, node in self.nodes():
            self.assertNotIsInstance(node, BARRED, place)
            if isinstance(node, ast.stmt):
                self.assertIsInstance(node, STATEMENTS, place)
            if isinstance(node, ast.Assign):
                self.assertEqual(len(node.targets), 1, place)
            if isinstance(node, (ast.For, ast.While)):
                self.assertEqual(node.orelse, [], place)
            if isinstance(node, ast.Assign) and isinstance(node.value, ast.Call):
                self.assertNotIn(getattr(node.value.func, "id", ""), WALKS, place)

    def test_functions(self):
        for place, node in self.nodes():
            if isinstance(node, ast.FunctionDef):
                self.assertLessEqual(node.end_lineno - node.lineno + 1, 40, place)
                self.assertEqual(node.decorator_list, [], place)
                for inner in ast.walk(node):
                    if isinstance(inner, ast.Expr):
                        self.assertIsInstance(inner.value, ast.Call, place)
                self.assertIsNone(node.args.vararg or node.args.kwarg, place)
                self.assertEqual(node.args.kwonlyargs, [], place)

    def test_names(self):
        for place, node in self.nodes():
            if isinstance(node, ast.Name) and node.id in dir(builtins):
                self.assertIn(node.id, ALLOWED, place)
                self.assertIsInstance(node.ctx, ast.Load, place)
            if isinstance(node, ast.arg):
                self.assertNotIn(node.arg, dir(builtins), place)
            if isinstance(node, ast.Name):
                self.assertRegex(node.id, r"^([A-Za-z][A-Za-z0-9_]*|__all__|__version__)$", place)
            if isinstance(node, ast.Attribute):
                self.assertNotIn(node.attr, NO_ATTRIBUTES, place)

    def test_methods(self):
        # The package has no methods of its own, so that each attribute is one of Python's own values.
        for place, node in self.nodes():
            if isinstance(node, ast.Attribute):
                self.assertIn(node.attr, METHODS, place)

    def test_powers_and_texts(self):
        for place, node in self.nodes():
            if isinstance(node, (ast.BinOp, ast.AugAssign)) and isinstance(node.op, ast.Pow):
                exponent = node.right if isinstance(node, ast.BinOp) else node.value
                self.assertIsInstance(exponent, ast.Constant, place)
                self.assertIn(exponent.value, range(65), place)
            if isinstance(node, ast.Constant) and isinstance(node.value, str):
                self.assertNotIn("%", node.value, place)
            if isinstance(node, ast.Constant):
                self.assertNotIsInstance(node.value, (float, bytes, complex), place)

    def test_is_stands_beside_none_and_truths(self):
        for place, node in self.nodes():
            if isinstance(node, ast.Compare) and isinstance(node.ops[0], (ast.Is, ast.IsNot)):
                self.assertIn(getattr(node.comparators[0], "value", 0), (None, True, False), place)

    def test_each_name_once_at_the_top(self):
        for path in FILES:
            names = [name for names in self.top_names(path) for name in names]
            self.assertEqual(sorted(names), sorted(set(names)), path.name)

    def top_names(self, path):
        for node in ast.parse(path.read_text()).body:
            if isinstance(node, (ast.FunctionDef, ast.ClassDef)):
                yield [node.name]
            elif isinstance(node, ast.Assign):
                yield [target.id for target in node.targets]
            elif isinstance(node, ast.ImportFrom):
                yield [alias.asname or alias.name for alias in node.names]

    def test_no_local_is_called_like_a_name_of_the_top(self):
        for path in FILES:
            tops = [name for names in self.top_names(path) for name in names]
            for node in ast.walk(ast.parse(path.read_text())):
                if isinstance(node, ast.FunctionDef):
                    for inner in ast.walk(node):
                        if isinstance(inner, ast.arg):
                            self.assertNotIn(inner.arg, tops, (path.name, inner.lineno))
                        if isinstance(inner, ast.Name) and isinstance(inner.ctx, ast.Store):
                            self.assertNotIn(inner.id, tops, (path.name, inner.lineno))

    def test_imports_come_from_where_a_name_is_defined_and_go_one_way(self):
        drawn = {}
        for path in FILES:
            drawn[path.stem] = set()
            for node in ast.parse(path.read_text()).body:
                if isinstance(node, ast.ImportFrom) and node.module != "__future__":
                    source = node.module.split(".")[1]
                    drawn[path.stem].add(source)
                    defined = self.defined(FOLDER / (source + ".py"))
                    for alias in node.names:
                        self.assertIn(alias.name, defined, (path.name, node.lineno))
        while drawn:
            free = [name for name in drawn if not drawn[name] & set(drawn)]
            self.assertNotEqual(free, [], "files draw from one another")
            for name in free:
                drawn.pop(name)

    def defined(self, path):
        body = ast.parse(path.read_text()).body
        named = [node.name for node in body if isinstance(node, (ast.FunctionDef, ast.ClassDef))]
        return named + [target.id for node in body if isinstance(node, ast.Assign) for target in node.targets]
