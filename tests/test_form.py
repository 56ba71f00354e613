"""The package keeps to the small part of Python that it is written in, as far as a test can easily see it."""

import ast
import builtins
import re
import unittest
from pathlib import Path

PACKAGE = Path(__file__).resolve().parent.parent / "unseen"
FILES = sorted(PACKAGE.glob("*.py"))

OWN_NAMES = set("""len range enumerate zip min max sum abs sorted reversed int str bool list tuple dict set frozenset
isinstance ord repr any all divmod Exception ValueError TypeError KeyError IndexError LookupError ZeroDivisionError
ArithmeticError OverflowError RuntimeError NotImplementedError StopIteration""".split())
METHODS = set("""append clear copy count endswith extend find get index insert isalnum isalpha isdigit islower isspace
isupper items join keys ljust lower lstrip partition pop remove replace reverse rfind rjust rpartition rsplit rstrip
setdefault split splitlines startswith strip update upper values zfill bit_length""".split())
NODES = tuple(getattr(ast, name) for name in """Module Import ImportFrom alias FunctionDef arguments arg ClassDef Assign
AugAssign If While For Return Break Continue Pass Raise Try ExceptHandler Expr Name Attribute Subscript Slice Constant
List Tuple Dict Set BinOp UnaryOp BoolOp Compare IfExp Call keyword ListComp comprehension JoinedStr FormattedValue
Lambda Load Store And Or Add Sub Mult FloorDiv Mod Pow LShift RShift BitOr BitXor BitAnd Not USub UAdd Invert Eq NotEq
Lt LtE Gt GtE Is IsNot In NotIn""".split())
WORDS = re.compile(r"\b(type|typing|typing_extensions|enum|Enum|IntEnum|StrEnum|Flag|IntFlag|Generic|Protocol|ABC|ABCMeta"
                   r"|namedtuple|NamedTuple|TypedDict|TYPE_CHECKING|abstractmethod)\b|dataclass|overload|contextmanager")


def bound_names(tree):
    for node in ast.walk(tree):
        if isinstance(node, (ast.FunctionDef, ast.ClassDef)):
            yield node.name
        elif isinstance(node, ast.arg):
            yield node.arg
        elif isinstance(node, ast.Name) and isinstance(node.ctx, ast.Store):
            yield node.id


class TestForm(unittest.TestCase):
    def in_each(self, check):
        for path in FILES:
            text = path.read_text(encoding="ascii")
            with self.subTest(file=path.name):
                check(text, ast.parse(text))

    def test_the_folder_holds_plain_files_alone(self):
        others = [path.name for path in PACKAGE.iterdir() if path.name != "__pycache__" and path not in FILES]
        self.assertEqual(others, [])
        self.assertIn("__init__.py", [path.name for path in FILES])

    def test_signs_sizes_and_words(self):
        self.in_each(self.check_text)

    def check_text(self, text, tree):
        rows = text.split("\n")
        self.assertLessEqual(len(rows), 400)
        self.assertLessEqual(max(map(len, rows)), 120)
        self.assertTrue(all(" " <= sign <= "~" or sign == "\n" for sign in text))
        self.assertIsNone(WORDS.search(text))
        for node in ast.walk(tree):
            if isinstance(node, ast.FunctionDef):
                self.assertLessEqual(node.end_lineno - node.lineno + 1, 40)

    def test_statements_and_expressions(self):
        self.in_each(self.check_nodes)

    def check_nodes(self, text, tree):
        for node in ast.walk(tree):
            self.assertIsInstance(node, NODES)
            if isinstance(node, ast.Assign):
                self.assertEqual(len(node.targets), 1)
            if isinstance(node, (ast.For, ast.While)):
                self.assertEqual(node.orelse, [])
            if isinstance(node, ast.ListComp):
                self.assertEqual(len(node.generators), 1)
                self.assertLessEqual(len(node.generators[0].ifs), 1)
            if isinstance(node, ast.Constant):
                self.assertIsInstance(node.value, (int, str, type(None)))
            if isinstance(node, (ast.FunctionDef, ast.ClassDef)):
                self.assertEqual(node.decorator_list, [])

    def test_imports_are_of_the_package_alone(self):
        self.in_each(self.check_imports)

    def check_imports(self, text, tree):
        for node in ast.walk(tree):
            self.assertNotIsInstance(node, ast.Import)
            if isinstance(node, ast.ImportFrom):
                self.assertEqual(node.level, 0)
                self.assertTrue(node.module.startswith("unseen."))

    def test_names(self):
        self.in_each(self.check_names)

    def check_names(self, text, tree):
        for name in bound_names(tree):
            self.assertRegex(name, r"\A[A-Za-z][A-Za-z0-9_]*\Z")
            self.assertFalse(hasattr(builtins, name), name)
        for node in ast.walk(tree):
            if isinstance(node, ast.Name) and hasattr(builtins, node.id):
                self.assertIn(node.id, OWN_NAMES)
            if isinstance(node, ast.Attribute):
                self.assertIn(node.attr, METHODS)


if __name__ == "__main__":
    unittest.main()
