"""The package keeps to the small part of Python that it is written in, as far as a test can easily see it."""

import ast
import builtins
import re
import unittest
from pathlib import Path

PACKAGE = Path(__file__).resolve().parent.parent / "unseen"
FILES = sorted(PACKAGE.glob("*.py"))

OWN_NAMES = set("""len range enumerate zip min max sum abs sorted reversed int str bool list tuple dict set frozenset
isinstance ord repr any all divmod Exception ValueError TypeError KeyError IndexError LookupError ZeroDivisionError
ArithmeticError OverflowError RuntimeError NotImplementedError StopIteration""".split())
METHODS = set("""append clear copy count endswith extend find get index insert isalnum isalpha isdigit islower isspace
isupper items join keys ljust lower lstrip partition pop remove replace reverse rfind rjust rpartition rsplit rstrip
setdefault split splitlines startswith strip update upper values zfill bit_length""".split())
NODES = tuple(getattr(ast, name) for name in """Module Import ImportFrom alias FunctionDef arguments arg ClassDef Assign
AugAssign If While For Return Break Continue Pass Raise Try ExceptHandler Expr Name Attribute Subscript Slice Constant
List Tuple Dict Set BinOp UnaryOp BoolOp Compare IfExp Call keyword ListComp comprehension JoinedStr FormattedValue
Lambda Load Store And Or Add Sub Mult FloorDiv Mod Pow LShift RShift BitOr BitXor BitAnd Not USub UAdd Invert Eq NotEq
Lt LtE Gt GtE Is IsNot In NotIn""".split())
WORDS = re.compile(r"\b(type|typing|typing_extensions|enum|Enum|IntEnum|StrEnum|Flag|IntFlag|Generic|Protocol|ABC|ABCMeta"
                   r"|namedtuple|NamedTuple|TypedDict|TYPE_CHECKING|abstractmethod)\b|dataclass|overload|contextmanager")


# Own values may not be called like what Python's own values have, apart from these.
FREE_VALUES = set("count index title find get join lower upper split strip copy add".split())
CHANGES = set("append clear extend insert pop remove reverse setdefault update".split())


def trees():
    return {path.stem: ast.parse(path.read_text(encoding="ascii")) for path in FILES}


def local_names(tree):
    """Parameters and what is given a value within a function."""
    for node in ast.walk(tree):
        if isinstance(node, ast.arg):
            yield node.arg
        elif isinstance(node, ast.Name) and isinstance(node.ctx, ast.Store):
            yield node.id


def bound_names(tree):
    yield from local_names(tree)
    for node in ast.walk(tree):
        if isinstance(node, (ast.FunctionDef, ast.ClassDef)) and node.name != "__init__":
            yield node.name


def imported(tree):
    return [alias.asname or alias.name for node in ast.walk(tree) if isinstance(node, ast.ImportFrom)
            for alias in node.names]


def classes(tree):
    return [node for node in tree.body if isinstance(node, ast.ClassDef)]


def own_methods():
    return {part.name for tree in trees().values() for one in classes(tree) for part in one.body
            if isinstance(part, ast.FunctionDef)}


def own_values():
    return {node.attr for tree in trees().values() for node in ast.walk(tree)
            if isinstance(node, ast.Attribute) and isinstance(node.ctx, ast.Store)}


class TestForm(unittest.TestCase):
    def in_each(self, check):
        for path in FILES:
            text = path.read_text(encoding="ascii")
            with self.subTest(file=path.name):
                check(text, ast.parse(text))

    def test_the_folder_holds_plain_files_alone(self):
        others = [path.name for path in PACKAGE.iterdir() if path.name != "__pycache__" and path not in FILES]
        self.assertEqual(others, [])
        self.assertIn("__init__.py", [path.name for path in FILES])

    def test_signs_sizes_and_words(self):
        self.in_each(self.check_text)

    def check_text(self, text, tree):
        rows = text.split("\n")
        self.assertLessEqual(len(rows), 400)
        self.assertLessEqual(max(map(len, rows)), 120)
        self.assertTrue(all(" " <= sign <= "~" or sign == "\n" for sign in text))
        self.assertIsNone(WORDS.search(text))
        for node in ast.walk(tree):
            if isinstance(node, ast.FunctionDef):
                self.assertLessEqual(node.end_lineno - node.lineno + 1, 40)

    def test_statements_and_expressions(self):
        self.in_each(self.check_nodes)

    def check_nodes(self, text, tree):
        for node in ast.walk(tree):
            self.assertIsInstance(node, NODES)
            if isinstance(node, ast.Assign):
                self.assertEqual(len(node.targets), 1)
            if isinstance(node, (ast.For, ast.While)):
                self.assertEqual(node.orelse, [])
            if isinstance(node, ast.ListComp):
                self.assertEqual(len(node.generators), 1)
                self.assertLessEqual(len(node.generators[0].ifs), 1)
            if isinstance(node, ast.Constant):
                self.assertIsInstance(node.value, (int, str, type(None)))
            if isinstance(node, (ast.FunctionDef, ast.ClassDef)):
                self.assertEqual(node.decorator_list, [])

    def test_imports_are_of_the_package_alone(self):
        self.in_each(self.check_imports)

    def check_imports(self, text, tree):
        for node in ast.walk(tree):
            self.assertNotIsInstance(node, ast.Import)
            if isinstance(node, ast.ImportFrom):
                self.assertEqual(node.level, 0)
                self.assertTrue(node.module.startswith("unseen."))

    def test_names(self):
        self.in_each(self.check_names)

    def check_names(self, text, tree):
        for name in bound_names(tree):
            self.assertRegex(name, r"\A[A-Za-z][A-Za-z0-9_]*\Z")
            self.assertFalse(hasattr(builtins, name), name)
        for node in ast.walk(tree):
            if isinstance(node, ast.Name) and hasattr(builtins, node.id):
                self.assertIn(node.id, OWN_NAMES)
            if isinstance(node, ast.Attribute):
                self.assertIn(node.attr, METHODS | own_methods() | own_values())

    def test_no_local_is_called_like_an_import_or_a_class(self):
        self.in_each(self.check_locals)

    def check_locals(self, text, tree):
        taken = set(imported(tree)) | {one.name for one in classes(tree)}
        self.assertEqual(taken & set(local_names(tree)), set())
        self.assertEqual(len(set(imported(tree))), len(imported(tree)))

    def test_each_name_is_bound_once_at_the_top(self):
        self.in_each(self.check_top)

    def check_top(self, text, tree):
        names = imported(tree)
        for node in tree.body:
            self.assertIsInstance(node, (ast.Expr, ast.ImportFrom, ast.FunctionDef, ast.ClassDef, ast.Assign))
            if isinstance(node, (ast.FunctionDef, ast.ClassDef)):
                names.append(node.name)
            if isinstance(node, ast.Assign):
                names.append(node.targets[0].id)
        self.assertEqual(len(set(names)), len(names))

    def test_every_import_is_used_and_comes_from_the_file_that_defines_it(self):
        defined = {name: {node.name for node in tree.body if isinstance(node, (ast.FunctionDef, ast.ClassDef))}
                   | {node.targets[0].id for node in tree.body if isinstance(node, ast.Assign)}
                   for name, tree in trees().items()}
        for name, tree in trees().items():
            used = {node.id for node in ast.walk(tree) if isinstance(node, ast.Name)}
            for node in ast.walk(tree):
                if isinstance(node, ast.ImportFrom):
                    for alias in node.names:
                        self.assertIn(alias.name, defined[node.module.split(".")[1]])
                        self.assertIn(alias.name, used, name)

    def test_no_two_files_draw_from_one_another(self):
        left = {name: {node.module.split(".")[1] for node in ast.walk(tree) if isinstance(node, ast.ImportFrom)}
                for name, tree in trees().items()}
        while left:
            free = [name for name, drawn in left.items() if not drawn & set(left)]
            self.assertNotEqual(free, [], left)
            for name in free:
                del left[name]

    def test_classes(self):
        kinds = (str, int, list, dict, set, bytes, tuple)
        python = {name for kind in kinds for name in dir(kind)}
        self.assertEqual(own_methods() & own_values(), set())
        self.assertEqual((own_methods() - {"__init__"}) & (python - METHODS), set())
        self.assertEqual(own_values() & (python - FREE_VALUES), set())
        for tree in trees().values():
            for one in classes(tree):
                self.assertLessEqual(len(one.bases), 1)
                self.assertEqual(one.keywords, [])
                for part in one.body:
                    self.assertIsInstance(part, (ast.FunctionDef, ast.Pass))

    def test_what_a_loop_walks_is_not_changed_in_it(self):
        self.in_each(self.check_loops)

    def check_loops(self, text, tree):
        for loop in ast.walk(tree):
            if isinstance(loop, ast.For):
                walked = {node.id for node in ast.walk(loop.iter) if isinstance(node, ast.Name)}
                for node in ast.walk(loop):
                    if isinstance(node, ast.Attribute) and node.attr in CHANGES and isinstance(node.value, ast.Name):
                        self.assertNotIn(node.value.id, walked)
                    if isinstance(node, ast.Subscript) and isinstance(node.ctx, ast.Store):
                        self.assertNotIn(node.value.id, walked)

    def test_no_clock_chance_or_file(self):
        self.in_each(self.check_calls)

    def check_calls(self, text, tree):
        for name in ("open", "print", "input", "random", "time", "sys", "os", "exec", "eval", "compile", "float"):
            self.assertNotIn(name, {node.id for node in ast.walk(tree) if isinstance(node, ast.Name)})


if __name__ == "__main__":
    unittest.main()
