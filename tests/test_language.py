"""The rules of ../shared/LANGUAGE.md that can be seen in a file by itself, for every file of the package."""

import ast
import builtins
import pathlib
import re
import unittest

ROOT = pathlib.Path(__file__).resolve().parent.parent
PACKAGE = ROOT / "duetimes"

# L8; iter and next have rules of their own, but may stand.
BUILTINS = set(
    "len range enumerate zip min max sum abs sorted reversed int str bool bytes list tuple dict set frozenset isinstance"
    " ord repr any all divmod iter next super property staticmethod classmethod"
    " Exception ValueError TypeError KeyError IndexError LookupError ZeroDivisionError ArithmeticError OverflowError"
    " RuntimeError NotImplementedError AttributeError StopIteration NotImplemented".split()
)
DOUBLE = set("__init__ __eq__ __repr__ __str__ __len__ __enter__ __exit__ __call__ __iter__".split())
WORDS = re.compile(
    r"\b(type|typing|typing_extensions|enum|Enum|IntEnum|StrEnum|Flag|IntFlag|Generic|Protocol|ABC|ABCMeta|namedtuple"
    r"|NamedTuple|TypedDict|TYPE_CHECKING|abstractmethod)\b|dataclass|overload|contextmanager"
)
NOWHERE = set("register mro elements open input law version_info with_traceback add_note format format_map".split())
STATEMENTS = (
    ast.FunctionDef, ast.ClassDef, ast.Assign, ast.AugAssign, ast.AnnAssign, ast.If, ast.While, ast.For, ast.Return,
    ast.Break, ast.Continue, ast.Pass, ast.Raise, ast.Assert, ast.Delete, ast.Nonlocal, ast.Match, ast.With, ast.Try,
    ast.ImportFrom, ast.Expr,
)


def files():
    return sorted(PACKAGE.glob("*.py"))


def trees():
    return [(path.name, ast.parse(path.read_text())) for path in files()]


def nodes(kind):
    return [(name, node) for name, tree in trees() for node in ast.walk(tree) if isinstance(node, kind)]


def methods():
    return [
        (name, item)
        for name, node in nodes(ast.ClassDef)
        for item in node.body
        if isinstance(item, ast.FunctionDef)
    ]


def bound_at_top(tree):
    found = []
    for node in tree.body:
        if isinstance(node, ast.ImportFrom):
            found += [alias.asname or alias.name for alias in node.names]
        elif isinstance(node, (ast.FunctionDef, ast.ClassDef)):
            found.append(node.name)
        elif isinstance(node, ast.Assign):
            found.append(node.targets[0].id)
    return found


def is_called(node, names):
    return isinstance(node, ast.Call) and isinstance(node.func, ast.Name) and node.func.id in names


class Language(unittest.TestCase):
    def test_there_are_files(self):
        self.assertIn("__init__.py", [path.name for path in files()])

    def test_l1_l14_files_and_signs(self):
        for path in PACKAGE.iterdir():
            if path.name != "__pycache__":
                self.assertRegex(path.name, r"\A[a-z_][a-z0-9_]*\.py\Z")
        for path in files():
            for sign in path.read_text():
                self.assertTrue(sign == "\n" or " " <= sign <= "~", (path.name, sign))

    def test_l2_l16_imports(self):
        defined = {path.stem: bound_at_top(ast.parse(path.read_text())) for path in files()}
        imports = {path.stem: [] for path in files()}
        for name, node in nodes((ast.Import, ast.ImportFrom)):
            self.assertIsInstance(node, ast.ImportFrom, name)
            self.assertEqual((node.level, node.module.split(".")[0]), (0, "duetimes"), name)
            source = node.module.split(".")[1]
            imports[name[:-3]].append(source)
            own = [item.name for item in ast.parse((PACKAGE / f"{source}.py").read_text()).body if hasattr(item, "name")]
            for alias in node.names:
                self.assertIn(alias.name, defined[source])
                self.assertTrue(alias.name in own or alias.name.isupper(), (name, alias.name))
        done = []
        while len(done) < len(imports):
            free = [name for name in imports if name not in done and all(source in done for source in imports[name])]
            self.assertTrue(free, "files import from each other")
            done += free

    def test_l3_l15_module_level(self):
        for name, tree in trees():
            for at, node in enumerate(tree.body):
                if isinstance(node, ast.Expr):
                    self.assertEqual(at, 0, name)
                    self.assertIsInstance(node.value, ast.Constant, name)
                else:
                    self.assertIsInstance(node, (ast.ImportFrom, ast.FunctionDef, ast.ClassDef, ast.Assign), name)
            found = bound_at_top(tree)
            self.assertEqual(sorted(found), sorted(set(found)), name)

    def test_l4_l5_methods(self):
        for name, node in nodes(ast.FunctionDef):
            self.assertEqual(node.args.posonlyargs, [], name)
            if node.name.startswith("__"):
                self.assertIn(node.name, DOUBLE, name)
        for name, node in nodes(ast.ClassDef):
            self.assertEqual(node.decorator_list, [], name)

    def test_l6_statements(self):
        for name, node in nodes(ast.stmt):
            self.assertIsInstance(node, STATEMENTS, (name, node.lineno))

    def test_l7_l27_values(self):
        for name, node in nodes(ast.Constant):
            self.assertNotIsInstance(node.value, (float, complex), (name, node.lineno))
            if isinstance(node.value, str):
                self.assertNotIn("%", node.value, (name, node.lineno))
        self.assertEqual(nodes(ast.Div), [])
        for name, node in nodes(ast.Call):
            if is_called(node, ("any", "all", "min", "max", "sum", "sorted")):
                self.assertNotIsInstance(node.args[0], ast.GeneratorExp, (name, node.lineno))

    def test_l8_l15_names_of_python(self):
        for name, node in nodes(ast.Name):
            if hasattr(builtins, node.id):
                self.assertIn(node.id, BUILTINS, (name, node.lineno))
                self.assertIsInstance(node.ctx, ast.Load, (name, node.lineno))
        for name, node in nodes(ast.arg):
            self.assertFalse(hasattr(builtins, node.arg), (name, node.lineno))

    def test_l10_size(self):
        for path in files():
            rows = path.read_text().split("\n")
            self.assertLess(len(rows), 400, path.name)
            self.assertLessEqual(max(len(row) for row in rows), 120, path.name)
        for name, node in nodes(ast.FunctionDef):
            self.assertLessEqual(node.end_lineno - node.lineno + 1, 40, (name, node.name))

    def test_l12_l17_names(self):
        found = [(name, node.id) for name, node in nodes(ast.Name)]
        found += [(name, node.attr) for name, node in nodes(ast.Attribute)]
        found += [(name, node.arg) for name, node in nodes(ast.arg)]
        found += [(name, node.name) for name, node in nodes((ast.FunctionDef, ast.ClassDef))]
        for name, word in found:
            self.assertTrue(word in DOUBLE or not word.startswith("_"), (name, word))
            self.assertNotIn(word, NOWHERE, name)
        for path in files():
            self.assertIsNone(WORDS.search(path.read_text()), path.name)

    def test_l15_locals(self):
        for name, tree in trees():
            taken = [node.name for node in tree.body if isinstance(node, ast.ClassDef)]
            for node in tree.body:
                if isinstance(node, ast.ImportFrom):
                    taken += [alias.asname or alias.name for alias in node.names]
            for node in ast.walk(tree):
                if isinstance(node, ast.arg):
                    self.assertNotIn(node.arg, taken, (name, node.lineno))
                if isinstance(node, ast.Name) and isinstance(node.ctx, ast.Store):
                    self.assertNotIn(node.id, taken, (name, node.lineno))

    def test_l18_methods_and_attributes(self):
        called = {item.name for name, item in methods()}
        stored = {node.attr for name, node in nodes(ast.Attribute) if isinstance(node.ctx, ast.Store)}
        self.assertEqual(called & stored, set())

    def test_l20_is(self):
        for name, node in nodes(ast.Compare):
            for sign, right in zip(node.ops, node.comparators):
                if isinstance(sign, (ast.Is, ast.IsNot)):
                    self.assertTrue(isinstance(right, ast.Constant) and right.value in (None, True, False), name)

    def test_l28_double_underscore_methods(self):
        for name, item in methods():
            told = [node.value for node in ast.walk(item) if isinstance(node, ast.Return)]
            if item.name == "__init__":
                self.assertEqual(told, [], name)
            if item.name == "__len__":
                self.assertTrue(all(is_called(worth, ("len",)) for worth in told), name)
            if item.name in ("__len__", "__str__", "__repr__"):
                self.assertIsInstance(item.body[-1], ast.Return, name)


if __name__ == "__main__":
    unittest.main()
