"""Checks that the package keeps to the small part of Python that it is written in."""

import ast
import builtins
import inspect
import pathlib
import re
import unittest

import hopperset
import hopperset.weigher

PACKAGE = pathlib.Path(hopperset.__file__).resolve().parent

STATEMENTS = (
    ast.FunctionDef, ast.ClassDef, ast.Return, ast.Assign, ast.AugAssign, ast.AnnAssign, ast.For, ast.While,
    ast.If, ast.Raise, ast.Try, ast.ImportFrom, ast.Expr, ast.Pass, ast.Break, ast.Continue,
)
EXPRESSIONS = (
    ast.BoolOp, ast.BinOp, ast.UnaryOp, ast.Lambda, ast.IfExp, ast.Dict, ast.Set, ast.ListComp, ast.Compare,
    ast.Call, ast.FormattedValue, ast.JoinedStr, ast.Constant, ast.Attribute, ast.Subscript, ast.Name, ast.List,
    ast.Tuple, ast.Slice,
)
OWN_NAMES_OF_PYTHON = set("""
    len range enumerate zip min max sum abs sorted reversed int str bool list tuple dict set frozenset isinstance
    ord repr any all divmod Exception ValueError TypeError KeyError IndexError LookupError ZeroDivisionError
    ArithmeticError OverflowError RuntimeError NotImplementedError AttributeError StopIteration
""".split())
METHODS_OF_PYTHON = set("""
    append clear copy count endswith extend find get index insert isalnum isalpha isdigit islower isspace isupper
    items join keys ljust lower lstrip partition pop remove replace reverse rfind rjust rpartition rsplit rstrip
    setdefault split splitlines startswith strip update upper values zfill bit_length
""".split())
NAMES_NOT_USED = set("""
    register mro elements open input version_info with_traceback add_note attrgetter breakpoint builtins compile
    copyright credits delattr dir eval exec exit gc getattr globals hasattr help id importlib license locals
    methodcaller os quit setattr super type vars sys format format_map
""".split())
WORDS_NOT_USED = set("""
    type typing typing_extensions enum Enum IntEnum StrEnum Flag IntFlag Generic Protocol ABC ABCMeta namedtuple
    NamedTuple TypedDict TYPE_CHECKING abstractmethod
""".split())


def package_files():
    return sorted(path for path in PACKAGE.rglob("*") if path.is_file() and "__pycache__" not in path.parts)


def trees():
    return [(path.name, ast.parse(path.read_text())) for path in package_files()]


def bound_names(tree):
    """Every name that a file gives to something."""
    names = []
    for node in ast.walk(tree):
        if isinstance(node, (ast.FunctionDef, ast.ClassDef)):
            names.append(node.name)
        elif isinstance(node, ast.arg):
            names.append(node.arg)
        elif isinstance(node, (ast.Name, ast.Attribute)) and isinstance(node.ctx, ast.Store):
            names.append(node.id if isinstance(node, ast.Name) else node.attr)
    return names


class Files(unittest.TestCase):

    def test_only_files_of_python_with_plain_names(self):
        for path in package_files():
            self.assertRegex(path.name, r"^[a-z][a-z0-9_]*\.py$|^__init__\.py$")

    def test_sizes_and_signs(self):
        for path in package_files():
            text = path.read_text(encoding="utf-8")
            self.assertLessEqual(len(text.splitlines()), 399, path.name)
            for row in text.splitlines():
                self.assertLessEqual(len(row), 120, path.name)
            self.assertRegex(text, r"\A[ -~\n]*\Z", path.name)

    def test_words_that_are_not_used(self):
        for path in package_files():
            words = set(re.findall(r"\w+", path.read_text()))
            self.assertEqual(words & WORDS_NOT_USED, set(), path.name)
            self.assertFalse([word for word in words if re.search("dataclass|overload|contextmanager", word)])

    def test_imports_are_of_the_package_alone(self):
        for name, tree in trees():
            for node in ast.walk(tree):
                if isinstance(node, ast.ImportFrom):
                    self.assertEqual(node.level, 0, name)
                    self.assertTrue(node.module.startswith("hopperset."), name)
                    self.assertNotIn("*", [alias.name for alias in node.names], name)


class Code(unittest.TestCase):

    def test_statements_and_expressions(self):
        for name, tree in trees():
            for node in ast.walk(tree):
                if isinstance(node, ast.stmt):
                    self.assertIsInstance(node, STATEMENTS, name)
                if isinstance(node, ast.expr):
                    self.assertIsInstance(node, EXPRESSIONS, name)
                if isinstance(node, ast.Assign):
                    self.assertEqual(len(node.targets), 1, name)
                if isinstance(node, (ast.For, ast.While)):
                    self.assertEqual(node.orelse, [], name)
                if isinstance(node, ast.Constant):
                    self.assertIsInstance(node.value, (int, str, bool, type(None)), name)
                self.assertNotIsInstance(node, (ast.Div, ast.MatMult), name)

    def test_functions_are_plain_and_small(self):
        for name, tree in trees():
            for node in ast.walk(tree):
                if isinstance(node, (ast.FunctionDef, ast.ClassDef)):
                    self.assertEqual(node.decorator_list, [], name)
                if isinstance(node, ast.FunctionDef):
                    self.assertLessEqual(node.end_lineno - node.lineno + 1, 40, node.name)
                    self.assertIsNone(node.args.vararg or node.args.kwarg, node.name)
                    self.assertEqual(node.args.kwonlyargs + node.args.posonlyargs, [], node.name)

    def test_names(self):
        for name, tree in trees():
            for bound in bound_names(tree):
                self.assertRegex(bound, r"^[A-Za-z][A-Za-z0-9_]*$|^__(init|eq|repr|str|len)__$", name)
                self.assertNotIn(bound, NAMES_NOT_USED, name)
                self.assertNotIn(bound, vars(builtins), name)

    def test_names_of_pythons_own(self):
        for name, tree in trees():
            used = {node.id for node in ast.walk(tree) if isinstance(node, ast.Name)}
            pythons_own = {word for word in used if word in vars(builtins)}
            self.assertEqual(pythons_own - OWN_NAMES_OF_PYTHON, set(), name)

    def test_attributes_are_of_the_program_or_allowed(self):
        own = set()
        for name, tree in trees():
            own.update(bound_names(tree))
        for name, tree in trees():
            used = {node.attr for node in ast.walk(tree) if isinstance(node, ast.Attribute)}
            self.assertEqual(used - own - METHODS_OF_PYTHON, set(), name)


    def test_no_name_is_a_method_here_and_a_value_there(self):
        methods = set()
        values = set()
        for name, tree in trees():
            for node in ast.walk(tree):
                if isinstance(node, ast.ClassDef):
                    names = [part.name for part in node.body if isinstance(part, ast.FunctionDef)]
                    self.assertEqual(len(names), len(set(names)), node.name)
                    methods.update(names)
                if isinstance(node, ast.Attribute) and isinstance(node.ctx, ast.Store):
                    values.add(node.attr)
        self.assertEqual(methods & values, set())

    def test_no_local_is_called_like_a_class_or_an_import(self):
        for name, tree in trees():
            taken = {node.name for node in tree.body if isinstance(node, ast.ClassDef)}
            for node in tree.body:
                if isinstance(node, ast.ImportFrom):
                    taken.update(alias.name for alias in node.names)
            for node in ast.walk(tree):
                if isinstance(node, ast.arg):
                    self.assertNotIn(node.arg, taken, name)
                if isinstance(node, ast.Name) and isinstance(node.ctx, ast.Store):
                    self.assertNotIn(node.id, taken, name)

    def test_keywords_in_calls(self):
        allowed = {"sorted": {"key", "reverse"}, "min": {"key", "default"}, "max": {"key", "default"}}
        for name, tree in trees():
            for node in ast.walk(tree):
                if isinstance(node, ast.Call) and node.keywords:
                    self.assertIsInstance(node.func, ast.Name, name)
                    words = {keyword.arg for keyword in node.keywords}
                    self.assertEqual(words - allowed.get(node.func.id, set()), set(), name)

    def test_what_is_walked_is_not_kept(self):
        for name, tree in trees():
            walked = set()
            for node in ast.walk(tree):
                if isinstance(node, (ast.For, ast.comprehension)):
                    walked.add(node.iter)
                if isinstance(node, ast.Call) and isinstance(node.func, ast.Name) and node.args:
                    if node.func.id in ("list", "tuple", "dict", "sorted", "sum", "any", "all", "enumerate", "zip"):
                        walked.add(node.args[0])
            for node in ast.walk(tree):
                if isinstance(node, ast.Call) and isinstance(node.func, ast.Name):
                    if node.func.id in ("zip", "enumerate", "reversed", "range"):
                        self.assertIn(node, walked, name)


class Interface(unittest.TestCase):

    def test_answers_is_a_plain_function_of_calls(self):
        answers = hopperset.weigher.answers
        self.assertEqual(answers.__module__, "hopperset.weigher")
        self.assertEqual(str(inspect.signature(answers)), "(calls)")
