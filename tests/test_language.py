"""The package's form: the rules of ../shared/LANGUAGE.md that can be seen file by file."""

import ast
import pathlib
import re
import unittest

PACKAGE = pathlib.Path(__file__).resolve().parent.parent / "stepscommuted"

BUILT_IN = set(
    "len range enumerate zip min max sum abs sorted reversed int str bool list tuple dict set frozenset isinstance ord "
    "repr any all divmod".split())

METHODS = set(
    "append clear copy count endswith extend find get index insert isalnum isalpha isdigit islower isspace isupper "
    "items join keys ljust lower lstrip partition pop remove replace reverse rfind rjust rpartition rsplit rstrip "
    "setdefault split splitlines startswith strip update upper values zfill bit_length".split())

STATEMENTS = (
    ast.FunctionDef, ast.ClassDef, ast.ImportFrom, ast.Assign, ast.AugAssign, ast.If, ast.While, ast.For, ast.Return,
    ast.Break, ast.Continue, ast.Pass, ast.Raise, ast.Try, ast.Expr)

EXPRESSIONS = (
    ast.BoolOp, ast.BinOp, ast.UnaryOp, ast.Lambda, ast.IfExp, ast.Dict, ast.ListComp, ast.Compare, ast.Call,
    ast.Constant, ast.Attribute, ast.Subscript, ast.Name, ast.List, ast.Tuple, ast.Slice, ast.JoinedStr,
    ast.FormattedValue)

WORDS = re.compile(
    r"\b(type|typing|typing_extensions|enum|Enum|IntEnum|StrEnum|Flag|IntFlag|Generic|Protocol|ABC|ABCMeta|namedtuple|"
    r"NamedTuple|TypedDict|TYPE_CHECKING|abstractmethod)\b|dataclass|overload|contextmanager")

BARRED = set("register mro elements open input version_info with_traceback add_note format format_map".split())


def files():
    return sorted(PACKAGE.rglob("*.py"))


def nodes(path):
    return ast.walk(ast.parse(path.read_text(encoding="utf-8")))


class LanguageTest(unittest.TestCase):
    def test_nothing_but_files_of_the_package(self):
        found = [path for path in PACKAGE.iterdir() if path.name != "__pycache__"]
        self.assertIn(PACKAGE / "__init__.py", found)
        for path in found:
            self.assertRegex(path.name, r"^(__init__|[a-z][a-z0-9_]*)\.py$")

    def test_signs_words_and_sizes(self):
        for path in files():
            text = path.read_text(encoding="utf-8")
            lines = text.split("\n")
            self.assertLessEqual(len(lines), 400, path)
            self.assertIsNone(WORDS.search(text), path)
            self.assertIsNone(re.search(r"[^ -~\n]", text), path)
            for line in lines:
                self.assertLessEqual(len(line), 120, (path, line))

    def test_functions_are_small_and_plain(self):
        for path in files():
            for node in nodes(path):
                if isinstance(node, ast.FunctionDef):
                    self.assertLessEqual(node.end_lineno - node.lineno + 1, 40, (path, node.name))
                    self.assertEqual(node.decorator_list, [], (path, node.name))
                    self.assertIsNone(node.args.vararg or node.args.kwarg, (path, node.name))
                    self.assertEqual(node.args.kwonlyargs, [], (path, node.name))

    def test_statements_and_expressions(self):
        for path in files():
            for node in nodes(path):
                if isinstance(node, ast.stmt):
                    self.assertIsInstance(node, STATEMENTS, (path, node.lineno))
                if isinstance(node, ast.expr):
                    self.assertIsInstance(node, EXPRESSIONS, (path, node.lineno))
                if isinstance(node, (ast.For, ast.While)):
                    self.assertEqual(node.orelse, [], (path, node.lineno))
                if isinstance(node, ast.Assign):
                    self.assertEqual(len(node.targets), 1, (path, node.lineno))
                if isinstance(node, ast.Constant):
                    self.assertNotIsInstance(node.value, (float, bytes, complex), (path, node.lineno))

    def test_imports_are_the_packages_own(self):
        for path in files():
            for node in nodes(path):
                if isinstance(node, ast.ImportFrom):
                    self.assertEqual(node.level, 0, (path, node.lineno))
                    self.assertTrue(node.module.startswith("stepscommuted."), (path, node.lineno))

    def test_names(self):
        python_own = set(dir(__builtins__) if not isinstance(__builtins__, dict) else __builtins__)
        for path in files():
            for node in nodes(path):
                if isinstance(node, ast.Name):
                    self.assertRegex(node.id, r"^[A-Za-z][A-Za-z0-9_]*$", (path, node.lineno))
                    if node.id in python_own:
                        self.assertIsInstance(node.ctx, ast.Load, (path, node.lineno))
                        self.assertIn(node.id, BUILT_IN, (path, node.lineno))
                    self.assertNotIn(node.id, BARRED, (path, node.lineno))
                if isinstance(node, ast.arg):
                    self.assertNotIn(node.arg, python_own, (path, node.lineno))
                if isinstance(node, ast.Attribute):
                    self.assertNotIn(node.attr, BARRED, (path, node.lineno))

    def test_methods_called_are_the_listed_ones_or_the_packages_own(self):
        own = {node.name for path in files() for node in nodes(path) if isinstance(node, ast.FunctionDef)}
        for path in files():
            for node in nodes(path):
                if isinstance(node, ast.Call) and isinstance(node.func, ast.Attribute):
                    self.assertIn(node.func.attr, METHODS | own, (path, node.lineno))
