"""The form of the package's files: the rules of LANGUAGE.md that can be seen in the code itself."""

import ast
import pathlib
import re
import unittest

PACKAGE = pathlib.Path(__file__).resolve().parent.parent / "goodenough"

NODES = tuple(getattr(ast, name) for name in """
    Module Import ImportFrom alias FunctionDef arguments arg Lambda ClassDef Assign AugAssign If While For Return
    Break Continue Pass Raise Try ExceptHandler Expr Constant List Tuple Dict BinOp UnaryOp BoolOp Compare IfExp
    Call keyword Attribute Subscript Slice Name ListComp comprehension JoinedStr FormattedValue Load Store
    Add Sub Mult FloorDiv Mod Pow LShift RShift BitOr BitXor BitAnd USub UAdd Invert Not And Or
    Eq NotEq Lt LtE Gt GtE Is IsNot In NotIn Set
""".split())

BUILTINS = """
    len range enumerate zip min max sum abs sorted reversed int str bool list tuple dict set frozenset isinstance
    ord repr any all divmod Exception ValueError TypeError KeyError IndexError LookupError ZeroDivisionError
    ArithmeticError OverflowError RuntimeError NotImplementedError
""".split()

METHODS = """
    append clear copy count endswith extend find get index insert isalnum isalpha isdigit islower isspace isupper
    items join keys ljust lower lstrip partition pop remove replace reverse rfind rjust rpartition rsplit rstrip
    setdefault split splitlines startswith strip update upper values zfill bit_length
""".split()

NEVER_WORDS = """
    type typing typing_extensions enum Enum IntEnum StrEnum Flag IntFlag Generic Protocol ABC ABCMeta namedtuple
    NamedTuple TypedDict TYPE_CHECKING abstractmethod
""".split()

NEVER_WITHIN = ("dataclass", "overload", "contextmanager")
DUNDERS = ("__init__", "__eq__", "__repr__", "__str__", "__len__")


def package_texts():
    return [(path.name, path.read_text(encoding="utf-8")) for path in sorted(PACKAGE.glob("**/*.py"))]


def names_bound(tree):
    """Every name that the file itself gives: defs, classes, parameters, targets, imports."""
    bound = []
    for node in ast.walk(tree):
        if isinstance(node, (ast.FunctionDef, ast.ClassDef)):
            bound.append(node.name)
        elif isinstance(node, ast.arg):
            bound.append(node.arg)
        elif isinstance(node, ast.Name) and isinstance(node.ctx, ast.Store):
            bound.append(node.id)
        elif isinstance(node, ast.alias):
            bound.append(node.asname or node.name)
        elif isinstance(node, ast.ExceptHandler) and node.name:
            bound.append(node.name)
    return bound


class LanguageTest(unittest.TestCase):

    def test_only_python_files_lie_in_the_package(self):
        for path in PACKAGE.iterdir():
            if path.name != "__pycache__":
                self.assertRegex(path.name, r"^[a-z0-9_]+\.py$")
        self.assertTrue((PACKAGE / "__init__.py").is_file())

    def test_signs_and_sizes(self):
        for name, text in package_texts():
            with self.subTest(name):
                self.assertRegex(text, r"\A[ -~\n]*\Z")
                lines = text.split("\n")
                self.assertLessEqual(len(lines), 400)
                self.assertLessEqual(max(len(line) for line in lines), 120)
                for node in ast.walk(ast.parse(text)):
                    if isinstance(node, ast.FunctionDef):
                        self.assertLessEqual(node.end_lineno - node.lineno + 1, 40, node.name)

    def test_words_that_stand_nowhere(self):
        for name, text in package_texts():
            with self.subTest(name):
                words = re.findall(r"\w+", text)
                for word in NEVER_WORDS:
                    self.assertNotIn(word, words)
                for word in NEVER_WITHIN:
                    self.assertNotIn(word, text)

    def test_statements_and_expressions(self):
        for name, text in package_texts():
            with self.subTest(name):
                for node in ast.walk(ast.parse(text)):
                    self.assertIsInstance(node, NODES)
                    self.assert_form(node)

    def assert_form(self, node):
        if isinstance(node, ast.Constant):
            self.assertIn(type(node.value), (int, str, bool, type(None)))
            self.assertNotIn("%", str(node.value))
        if isinstance(node, (ast.FunctionDef, ast.ClassDef)):
            self.assertEqual(node.decorator_list, [])
        if isinstance(node, ast.arguments):
            self.assertFalse(node.vararg or node.kwarg or node.kwonlyargs or node.posonlyargs)
        if isinstance(node, (ast.For, ast.While)):
            self.assertEqual(node.orelse, [])
        if isinstance(node, ast.Try):
            self.assertEqual(node.finalbody, [])
        if isinstance(node, ast.Assign):
            self.assertEqual(len(node.targets), 1)
        if isinstance(node, ast.ListComp):
            self.assertEqual(len(node.generators), 1)
            self.assertLessEqual(len(node.generators[0].ifs), 1)
        if isinstance(node, ast.Compare):
            for sign, side in zip(node.ops, node.comparators):
                if isinstance(sign, (ast.Is, ast.IsNot)):
                    self.assertIn(ast.unparse(side), ("None", "True", "False"))

    def test_imports(self):
        for name, text in package_texts():
            with self.subTest(name):
                tree = ast.parse(text)
                for node in ast.walk(tree):
                    self.assertNotIsInstance(node, ast.Import)
                    if isinstance(node, ast.ImportFrom):
                        self.assertIn(node, tree.body)
                        self.assertEqual(node.level, 0)
                        self.assertRegex(node.module, r"^goodenough\.[a-z0-9_]+$")
                        self.assertNotIn("*", [one.name for one in node.names])

    def test_names(self):
        for name, text in package_texts():
            with self.subTest(name):
                tree = ast.parse(text)
                bound = names_bound(tree)
                for word in bound:
                    self.assertTrue(word in DUNDERS or re.match(r"^[A-Za-z][A-Za-z0-9_]*$", word), word)
                    self.assertNotIn(word, BUILTINS)
                for node in ast.walk(tree):
                    if isinstance(node, ast.Name) and isinstance(node.ctx, ast.Load):
                        self.assertIn(node.id, bound + BUILTINS)

    def test_methods_of_pythons_own(self):
        own = []
        for _, text in package_texts():
            for node in ast.walk(ast.parse(text)):
                if isinstance(node, ast.ClassDef):
                    own += [part.name for part in node.body if isinstance(part, ast.FunctionDef)]
        for name, text in package_texts():
            with self.subTest(name):
                for node in ast.walk(ast.parse(text)):
                    if isinstance(node, ast.Call) and isinstance(node.func, ast.Attribute):
                        self.assertIn(node.func.attr, METHODS + own)


if __name__ == "__main__":
    unittest.main()
