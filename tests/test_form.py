"""The package keeps to its small part of Python; checked is what can be seen without guessing at kinds of values."""

import ast
import builtins
import functools
import pathlib
import re
import unittest

FOLDER = pathlib.Path(__file__).resolve().parent.parent / "farhold"

STATEMENTS = {
    "FunctionDef", "ClassDef", "ImportFrom", "Assign", "AugAssign", "If", "While", "For", "Return", "Break",
    "Continue", "Pass", "Raise", "Try", "Expr",
}
EXPRESSIONS = {
    "BinOp", "UnaryOp", "BoolOp", "Compare", "IfExp", "Call", "Attribute", "Subscript", "Slice", "Name", "Constant",
    "List", "Tuple", "Dict", "ListComp", "JoinedStr", "FormattedValue", "Lambda",
}
BUILT_IN = set(
    "len range enumerate zip min max sum abs sorted reversed int str bool list tuple dict set isinstance ord repr any "
    "all divmod ValueError KeyError IndexError LookupError ZeroDivisionError StopIteration".split()
)
METHODS = set(
    "append clear copy count endswith extend find get index insert isalnum isalpha isdigit islower isspace isupper "
    "items join keys ljust lower lstrip partition pop remove replace reverse rfind rjust rpartition rsplit rstrip "
    "setdefault split splitlines startswith strip update upper values zfill bit_length".split()
)
WORDS = (
    r"\b(type|typing|typing_extensions|enum|Enum|IntEnum|StrEnum|Flag|IntFlag|Generic|Protocol|ABC|ABCMeta|namedtuple|"
    r"NamedTuple|TypedDict|TYPE_CHECKING|abstractmethod)\b|dataclass|overload|contextmanager"
)


@functools.cache
def sources():
    return {path.name: path.read_text(encoding="utf-8") for path in sorted(FOLDER.glob("*.py"))}


@functools.cache
def trees():
    return {name: ast.parse(source) for name, source in sources().items()}


def found(kind):
    return [(name, node) for name, tree in trees().items() for node in ast.walk(tree) if isinstance(node, kind)]


def bound_names(node):
    if isinstance(node, (ast.FunctionDef, ast.ClassDef)):
        return [node.name]
    if isinstance(node, ast.arg):
        return [node.arg]
    if isinstance(node, ast.Name) and isinstance(node.ctx, ast.Store):
        return [node.id]
    if isinstance(node, ast.Attribute) and isinstance(node.ctx, ast.Store):
        return [node.attr]
    return []


@functools.cache
def methods():
    return {node.name for name, one in found(ast.ClassDef) for node in one.body if isinstance(node, ast.FunctionDef)}


@functools.cache
def stored_values():
    return {node.attr for name, node in found(ast.Attribute) if isinstance(node.ctx, ast.Store)}


class FormTest(unittest.TestCase):
    def test_the_folder_holds_plain_files_alone(self):
        names = {path.name for path in FOLDER.iterdir()} - {"__pycache__"}
        self.assertIn("__init__.py", names)
        for name in names:
            self.assertRegex(name, r"^(__init__|__main__|[a-z][a-z0-9_]*)\.py$")

    def test_signs_and_sizes(self):
        for name, source in sources().items():
            self.assertIsNone(re.search(r"[^\n -~]", source), name)
            self.assertLessEqual(len(source.splitlines()), 400, name)
            self.assertLessEqual(max(map(len, source.splitlines())), 120, name)
        for name, node in found(ast.FunctionDef):
            self.assertLessEqual(node.end_lineno - node.lineno + 1, 40, (name, node.name))

    def test_words_that_stand_nowhere(self):
        for name, source in sources().items():
            self.assertIsNone(re.search(WORDS, source), name)

    def test_statements_and_expressions(self):
        for kind, allowed in ((ast.stmt, STATEMENTS), (ast.expr, EXPRESSIONS)):
            for name, node in found(kind):
                self.assertIn(type(node).__name__, allowed, (name, node.lineno))

    def test_what_stands_by_itself_is_a_call_or_the_docstring_of_a_file(self):
        first = [tree.body[0] for tree in trees().values()]
        self.assertTrue(all(isinstance(node, ast.Expr) for node in first))
        for name, node in found(ast.Expr):
            docstring = isinstance(node.value, ast.Constant) and node.lineno == 1
            self.assertTrue(docstring or isinstance(node.value, ast.Call), (name, node.lineno))

    def test_one_plain_target_and_no_else_behind_a_loop(self):
        for name, node in found(ast.Assign):
            self.assertEqual(len(node.targets), 1, (name, node.lineno))
        for name, node in found((ast.For, ast.While)):
            self.assertEqual(node.orelse, [], (name, node.lineno))

    def test_imports_are_of_the_package_and_never_in_a_ring(self):
        draws = {name: set() for name in sources()}
        for name, node in found(ast.ImportFrom):
            self.assertRegex(node.module, r"^farhold\.[a-z_]+$")
            self.assertEqual(node.level, 0)
            defining = trees()[node.module.partition(".")[2] + ".py"]
            for alias in node.names:
                self.assertIn(alias.name, [one for part in defining.body for one in bound_names(part)])
            draws[name].add(node.module.partition(".")[2] + ".py")
        while draws:
            free = [name for name in draws if not draws[name] & set(draws)]
            self.assertNotEqual(free, [], draws)
            for name in free:
                draws.pop(name)

    def test_names(self):
        for name, node in found(ast.AST):
            for one in bound_names(node):
                self.assertRegex(one, r"^([A-Za-z][A-Za-z0-9_]*|__init__|__eq__|__repr__|__str__|__len__)$", name)
                if not isinstance(node, ast.Attribute):
                    self.assertNotIn(one, set(dir(builtins)) - methods(), (name, node.lineno))

    def test_built_in_names(self):
        for name, node in found(ast.Name):
            if node.id in dir(builtins):
                self.assertIn(node.id, BUILT_IN, (name, node.lineno))

    def test_no_name_is_a_method_and_a_value(self):
        self.assertEqual(methods() & stored_values(), set())

    def test_attributes_are_own_ones_or_listed(self):
        for name, node in found(ast.Attribute):
            self.assertIn(node.attr, METHODS | methods() | stored_values(), (name, node.lineno))

    def test_own_values_bear_no_name_of_pythons_own(self):
        theirs = {one for value in ("", 0, [], {}, (), set(), b"") for one in dir(value)}
        self.assertEqual((stored_values() | methods()) & theirs - {"__init__"}, set())

    def test_plain_parameters_and_no_decorator(self):
        for name, node in found((ast.FunctionDef, ast.ClassDef)):
            self.assertEqual(node.decorator_list, [], (name, node.lineno))
        for name, node in found(ast.arguments):
            self.assertEqual((node.posonlyargs, node.vararg, node.kwonlyargs, node.kwarg), ([], None, [], None), name)

    def test_the_top_of_a_file_has_defs_imports_and_plain_values_alone(self):
        for name, tree in trees().items():
            bound = [one for part in tree.body for one in bound_names(part)]
            for part in tree.body[1:]:
                self.assertIsInstance(part, (ast.ImportFrom, ast.FunctionDef, ast.ClassDef, ast.Assign), name)
                if isinstance(part, ast.Assign):
                    bound.append(part.targets[0].id)
                    for node in list(ast.walk(part.value))[1:]:
                        self.assertIsInstance(node, (ast.Constant, ast.Tuple, ast.Load), (name, part.lineno))
            self.assertEqual(len(bound), len(set(bound)), name)

    def test_no_parameter_or_local_is_called_like_a_class_or_an_import_of_its_file(self):
        for name, tree in trees().items():
            drawn = {alias.name for node in tree.body if isinstance(node, ast.ImportFrom) for alias in node.names}
            taken = drawn | {node.name for node in tree.body if isinstance(node, ast.ClassDef)}
            for node in ast.walk(tree):
                if isinstance(node, (ast.arg, ast.Name)):
                    self.assertEqual(taken & set(bound_names(node)), set(), (name, node.lineno))

    def test_no_annotation(self):
        for name, node in found(ast.FunctionDef):
            self.assertIsNone(node.returns, (name, node.lineno))
        for name, node in found(ast.arg):
            self.assertIsNone(node.annotation, (name, node.lineno))

    def test_comprehensions_are_short(self):
        for name, node in found(ast.ListComp):
            self.assertEqual(len(node.generators), 1, (name, node.lineno))
            self.assertLessEqual(len(node.generators[0].ifs), 1, (name, node.lineno))

    def test_what_is_walked_at_once_and_sets_are_never_kept(self):
        walked = ("items", "keys", "values", "zip", "enumerate", "reversed", "range", "set")
        for name, node in found((ast.Assign, ast.Return)):
            if isinstance(node.value, ast.Call):
                called = node.value.func
                self.assertNotIn(getattr(called, "attr", getattr(called, "id", None)), walked, (name, node.lineno))

    def test_is_stands_beside_none_true_and_false_alone(self):
        for name, node in found(ast.Compare):
            if any(isinstance(sign, (ast.Is, ast.IsNot)) for sign in node.ops):
                beside = node.comparators[-1]
                self.assertTrue(isinstance(beside, ast.Constant), (name, node.lineno))
                self.assertIn(beside.value, (None, True, False), (name, node.lineno))

    def test_texts_and_numbers(self):
        for name, node in found(ast.Constant):
            self.assertIn(type(node.value), (int, str, bool, type(None)), (name, node.lineno))
            if isinstance(node.value, str):
                self.assertNotIn("%", node.value, (name, node.lineno))
        for name, node in found(ast.BinOp):
            self.assertNotIsInstance(node.op, ast.Div, (name, node.lineno))
            if isinstance(node.op, ast.Pow):
                self.assertIsInstance(node.right, ast.Constant, (name, node.lineno))


if __name__ == "__main__":
    unittest.main()
