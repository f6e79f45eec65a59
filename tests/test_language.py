"""The form of the package's files: the rules of LANGUAGE.md that can be seen in the code itself."""

import ast
import builtins
import pathlib
import re
import unittest

PACKAGE = pathlib.Path(__file__).resolve().parent.parent / "goodenough"

NODES = tuple(getattr(ast, name) for name in """
    Module Import ImportFrom alias FunctionDef arguments arg Lambda ClassDef Assign AugAssign If While For Return
    Break Continue Pass Raise Try ExceptHandler Expr Constant List Tuple Dict BinOp UnaryOp BoolOp Compare IfExp
    Call keyword Attribute Subscript Slice Name ListComp comprehension JoinedStr FormattedValue Load Store
    Add Sub Mult FloorDiv Mod Pow LShift RShift BitOr BitXor BitAnd USub UAdd Invert Not And Or
    Eq NotEq Lt LtE Gt GtE Is IsNot In NotIn Set
""".split())

BUILTINS = """
    len range enumerate zip min max sum abs sorted reversed int str bool list tuple dict set frozenset isinstance
    ord repr any all divmod Exception ValueError TypeError KeyError IndexError LookupError ZeroDivisionError
    ArithmeticError OverflowError RuntimeError NotImplementedError
""".split()

METHODS = """
    append clear copy count endswith extend find get index insert isalnum isalpha isdigit islower isspace isupper
    items join keys ljust lower lstrip partition pop remove replace reverse rfind rjust rpartition rsplit rstrip
    setdefault split splitlines startswith strip update upper values zfill bit_length
""".split()

NEVER_WORDS = """
    type typing typing_extensions enum Enum IntEnum StrEnum Flag IntFlag Generic Protocol ABC ABCMeta namedtuple
    NamedTuple TypedDict TYPE_CHECKING abstractmethod
""".split()

NEVER_NAMES = """
    register mro elements open input version_info with_traceback add_note attrgetter breakpoint builtins compile
    copyright credits delattr dir eval exec exit gc getattr globals hasattr help id importlib license locals
    methodcaller os quit setattr super type vars sys
""".split()

# Which keywords Python's own names may be called with.
KEYWORDS = {"sorted": ("key", "reverse"), "min": ("key", "default"), "max": ("key", "default"), "sum": ("start",),
            "enumerate": ("start",), "zip": ("strict",)}
WALKED = ("zip", "enumerate", "reversed", "range")
WALKERS = ("list", "tuple", "dict", "sorted", "sum", "any", "all", "enumerate", "zip", "min", "max")
CHANGING = ("append", "clear", "extend", "insert", "pop", "remove", "reverse", "setdefault", "update")

NEVER_WITHIN = ("dataclass", "overload", "contextmanager")
DUNDERS = ("__init__", "__eq__", "__repr__", "__str__", "__len__")


def package_texts():
    return [(path.name, path.read_text(encoding="utf-8")) for path in sorted(PACKAGE.glob("**/*.py"))]


def names_bound(tree):
    """Every name that the file itself gives: defs, classes, parameters, targets, imports."""
    bound = []
    for node in ast.walk(tree):
        if isinstance(node, (ast.FunctionDef, ast.ClassDef)):
            bound.append(node.name)
        elif isinstance(node, ast.arg):
            bound.append(node.arg)
        elif isinstance(node, ast.Name) and isinstance(node.ctx, ast.Store):
            bound.append(node.id)
        elif isinstance(node, ast.alias):
            bound.append(node.asname or node.name)
        elif isinstance(node, ast.ExceptHandler) and node.name:
            bound.append(node.name)
    return bound


def package_trees():
    """Each file's tree, every node of it knowing the node that it stands in."""
    trees = []
    for name, text in package_texts():
        tree = ast.parse(text)
        for node in ast.walk(tree):
            for part in ast.iter_child_nodes(node):
                part.above = node
        trees.append((name, tree))
    return trees


def imported_names(tree):
    return [one.asname or one.name for node in tree.body if isinstance(node, ast.ImportFrom) for one in node.names]


def names_at_top(tree):
    names = imported_names(tree)
    for node in tree.body:
        if isinstance(node, (ast.FunctionDef, ast.ClassDef)):
            names.append(node.name)
        elif isinstance(node, ast.Assign):
            names += [target.id for target in node.targets]
    return names


def called(node):
    """The name that is called, or "" where the node is no call of a plain name."""
    return node.func.id if isinstance(node, ast.Call) and isinstance(node.func, ast.Name) else ""


def is_walked_on_the_spot(node):
    above = node.above
    if isinstance(above, (ast.For, ast.comprehension)):
        return above.iter is node
    return called(above) in WALKERS and node in above.args


def walked_through(node):
    """What a loop walks: the text of the list or dict itself, also behind enumerate and its like."""
    if called(node) in ("enumerate", "zip", "reversed"):
        return [text for part in node.args for text in walked_through(part)]
    if isinstance(node, ast.Call) and isinstance(node.func, ast.Attribute):
        return [ast.unparse(node.func.value)]
    return [ast.unparse(node)] if isinstance(node, (ast.Name, ast.Attribute, ast.Subscript)) else []


def changes_in(body):
    """The texts of what is changed by the statements of a loop."""
    changed = []
    for statement in body:
        for node in ast.walk(statement):
            if isinstance(node, ast.Subscript) and isinstance(node.ctx, ast.Store):
                changed.append(ast.unparse(node.value))
            elif isinstance(node, ast.AugAssign):
                changed.append(ast.unparse(node.target))
            elif isinstance(node, ast.Call) and isinstance(node.func, ast.Attribute) and node.func.attr in CHANGING:
                changed.append(ast.unparse(node.func.value))
    return changed


class LanguageTest(unittest.TestCase):

    def test_only_python_files_lie_in_the_package(self):
        for path in PACKAGE.iterdir():
            if path.name != "__pycache__":
                self.assertRegex(path.name, r"^[a-z0-9_]+\.py$")
        self.assertTrue((PACKAGE / "__init__.py").is_file())

    def test_signs_and_sizes(self):
        for name, text in package_texts():
            with self.subTest(name):
                self.assertRegex(text, r"\A[ -~\n]*\Z")
                lines = text.split("\n")
                self.assertLessEqual(len(lines), 400)
                self.assertLessEqual(max(len(line) for line in lines), 120)
                for node in ast.walk(ast.parse(text)):
                    if isinstance(node, ast.FunctionDef):
                        self.assertLessEqual(node.end_lineno - node.lineno + 1, 40, node.name)

    def test_words_that_stand_nowhere(self):
        for name, text in package_texts():
            with self.subTest(name):
                words = re.findall(r"\w+", text)
                for word in NEVER_WORDS:
                    self.assertNotIn(word, words)
                for word in NEVER_WITHIN:
                    self.assertNotIn(word, text)

    def test_statements_and_expressions(self):
        for name, text in package_texts():
            with self.subTest(name):
                for node in ast.walk(ast.parse(text)):
                    self.assertIsInstance(node, NODES)
                    self.assert_form(node)

    def assert_form(self, node):
        if isinstance(node, ast.Constant):
            self.assertIn(type(node.value), (int, str, bool, type(None)))
            self.assertNotIn("%", str(node.value))
        if isinstance(node, (ast.FunctionDef, ast.ClassDef)):
            self.assertEqual(node.decorator_list, [])
        if isinstance(node, ast.arguments):
            self.assertFalse(node.vararg or node.kwarg or node.kwonlyargs or node.posonlyargs)
        if isinstance(node, (ast.For, ast.While)):
            self.assertEqual(node.orelse, [])
        if isinstance(node, ast.Try):
            self.assertEqual(node.finalbody, [])
        if isinstance(node, ast.Assign):
            self.assertEqual(len(node.targets), 1)
            self.assertNotIsInstance(node.targets[0], (ast.Tuple, ast.List))
        if isinstance(node, ast.ListComp):
            self.assertEqual(len(node.generators), 1)
            self.assertLessEqual(len(node.generators[0].ifs), 1)
        if isinstance(node, ast.Compare):
            for sign, side in zip(node.ops, node.comparators):
                if isinstance(sign, (ast.Is, ast.IsNot)):
                    self.assertIn(ast.unparse(side), ("None", "True", "False"))

    def test_imports(self):
        for name, text in package_texts():
            with self.subTest(name):
                tree = ast.parse(text)
                for node in ast.walk(tree):
                    self.assertNotIsInstance(node, ast.Import)
                    if isinstance(node, ast.ImportFrom):
                        self.assertIn(node, tree.body)
                        self.assertEqual(node.level, 0)
                        self.assertRegex(node.module, r"^goodenough\.[a-z0-9_]+$")
                        self.assertNotIn("*", [one.name for one in node.names])

    def test_names(self):
        for name, text in package_texts():
            with self.subTest(name):
                tree = ast.parse(text)
                bound = names_bound(tree)
                for word in bound:
                    self.assertTrue(word in DUNDERS or re.match(r"^[A-Za-z][A-Za-z0-9_]*$", word), word)
                    self.assertNotIn(word, BUILTINS)
                for node in ast.walk(tree):
                    if isinstance(node, ast.Name) and isinstance(node.ctx, ast.Load):
                        self.assertIn(node.id, bound + BUILTINS)

    def test_methods_of_pythons_own(self):
        own = []
        for _, text in package_texts():
            for node in ast.walk(ast.parse(text)):
                if isinstance(node, ast.ClassDef):
                    own += [part.name for part in node.body if isinstance(part, ast.FunctionDef)]
        for name, text in package_texts():
            with self.subTest(name):
                for node in ast.walk(ast.parse(text)):
                    if isinstance(node, ast.Call) and isinstance(node.func, ast.Attribute):
                        self.assertIn(node.func.attr, METHODS + own)

    def test_names_that_are_not_used(self):
        own = dir(builtins)
        for name, tree in package_trees():
            with self.subTest(name):
                taken = [word for word in imported_names(tree)]
                taken += [node.name for node in tree.body if isinstance(node, ast.ClassDef)]
                for node in ast.walk(tree):
                    word = getattr(node, "arg", None) if isinstance(node, ast.arg) else None
                    if isinstance(node, ast.Name) and isinstance(node.ctx, ast.Store):
                        word = node.id
                    if word is not None:
                        self.assertNotIn(word, own)
                        self.assertNotIn(word, taken)
                    if isinstance(node, ast.Name):
                        self.assertNotIn(node.id, NEVER_NAMES)
                    if isinstance(node, ast.Attribute):
                        self.assertNotIn(node.attr, NEVER_NAMES[:8] + ["format", "format_map", "args", "encode"])

    def test_each_name_once_at_the_top(self):
        for name, tree in package_trees():
            with self.subTest(name):
                names = names_at_top(tree)
                self.assertEqual(len(names), len(set(names)))
                for node in ast.walk(tree):
                    if isinstance(node, ast.ClassDef):
                        self.assertIn(node, tree.body)
                        self.assertLessEqual(len(node.bases), 1)
                        methods = [part.name for part in node.body if isinstance(part, ast.FunctionDef)]
                        self.assertEqual(len(methods), len(set(methods)))

    def test_drawn_from_the_defining_file_and_never_round(self):
        trees = {name[:-3]: tree for name, tree in package_trees()}
        drawn = {}
        for name, tree in trees.items():
            drawn[name] = []
            for node in tree.body:
                if isinstance(node, ast.ImportFrom):
                    source = node.module.split(".")[1]
                    drawn[name].append(source)
                    self.assertIn(source, trees)
                    for one in node.names:
                        self.assertIsNone(one.asname)
                        self.assertIn(one.name, set(names_at_top(trees[source])) - set(imported_names(trees[source])))
                        self.assertIn(one.name, [part.id for part in ast.walk(tree) if isinstance(part, ast.Name)])
        for name in drawn:
            reached = set(drawn[name])
            for _ in drawn:
                reached |= {further for one in reached for further in drawn[one]}
            self.assertNotIn(name, reached)

    def test_methods_and_values_have_unlike_names(self):
        methods, values = set(), set()
        for _, tree in package_trees():
            for node in ast.walk(tree):
                if isinstance(node, ast.ClassDef):
                    methods |= {part.name for part in node.body if isinstance(part, ast.FunctionDef)}
                if isinstance(node, ast.Attribute) and isinstance(node.ctx, ast.Store):
                    values.add(node.attr)
        self.assertEqual(methods & values, set())
        own = {word for kind in (str, int, list, dict, set, bytes, tuple) for word in dir(kind)}
        self.assertEqual((values | methods) & (own - set(DUNDERS)), set())

    def test_keywords_and_annotations(self):
        for name, tree in package_trees():
            with self.subTest(name):
                for node in ast.walk(tree):
                    if isinstance(node, ast.Call) and node.keywords and called(node) in dir(builtins):
                        for keyword in node.keywords:
                            self.assertIn(keyword.arg, KEYWORDS.get(called(node), ()))
                    if isinstance(node, ast.arg):
                        self.assertIsNone(node.annotation)
                    if isinstance(node, ast.FunctionDef):
                        self.assertIsNone(node.returns)

    def test_walked_at_once_and_not_changed_there(self):
        for name, tree in package_trees():
            with self.subTest(name):
                for node in ast.walk(tree):
                    if called(node) in WALKED:
                        self.assertTrue(is_walked_on_the_spot(node), node.lineno)
                    if isinstance(node, ast.Call) and isinstance(node.func, ast.Attribute):
                        if node.func.attr in ("items", "keys", "values"):
                            self.assertTrue(is_walked_on_the_spot(node), node.lineno)
                    if isinstance(node, ast.For):
                        self.assertEqual(set(walked_through(node.iter)) & set(changes_in(node.body)), set())

    def test_sets_powers_and_errors(self):
        for name, tree in package_trees():
            with self.subTest(name):
                for node in ast.walk(tree):
                    if called(node) in ("set", "frozenset") or isinstance(node, ast.Set):
                        self.assertTrue(isinstance(node.above, ast.Compare) or called(node.above) in ("sorted", "len"))
                    if isinstance(node, ast.BinOp) and isinstance(node.op, ast.Pow):
                        self.assertIsInstance(node.right, ast.Constant)
                        self.assertIn(node.right.value, range(65))
                    if isinstance(node, ast.ExceptHandler):
                        self.assertIsInstance(node.type, ast.Name)
                        self.assertNotIn(node.type.id, ("Exception", "TypeError", "ValueError", "LookupError"))


if __name__ == "__main__":
    unittest.main()
