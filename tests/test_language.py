"""Holds the package to those rules of the language that can be seen in a file by itself."""

import ast
import builtins
import pathlib
import re
import unittest

PACKAGE = pathlib.Path(__file__).resolve().parent.parent / "breakwords"

NODES = """
    Module ImportFrom alias FunctionDef arguments arg ClassDef Lambda Assign AugAssign If While For Return Break
    Continue Pass Raise Try ExceptHandler Expr Constant List Tuple Dict Set BinOp UnaryOp BoolOp Compare IfExp Call
    keyword Attribute Subscript Slice ListComp comprehension JoinedStr FormattedValue Name Load Store
    Add Sub Mult FloorDiv Mod Pow LShift RShift BitAnd BitOr BitXor Invert Not USub UAdd And Or
    Eq NotEq Lt LtE Gt GtE In NotIn Is IsNot
""".split()

OWN_NAMES = """
    len range enumerate zip min max sum abs sorted reversed int str bool list tuple dict set frozenset isinstance ord
    repr any all divmod Exception ValueError TypeError KeyError IndexError LookupError ZeroDivisionError
    ArithmeticError OverflowError RuntimeError NotImplementedError AttributeError StopIteration
""".split()

METHODS = """
    append clear copy count endswith extend find get index insert isalnum isalpha isdigit islower isspace isupper items
    join keys ljust lower lstrip partition pop remove replace reverse rfind rjust rpartition rsplit rstrip setdefault
    split splitlines startswith strip update upper values zfill bit_length __init__
""".split()

WALKED_AT_ONCE = ["zip", "enumerate", "reversed", "range"]
WALKERS = ["list", "tuple", "dict", "sorted", "sum", "any", "all", "enumerate", "zip", "min", "max"]
WALKED_METHODS = ["items", "keys", "values"]

# What an object may keep under a name that Python's own values have, too.
SHARED_VALUE_NAMES = "count index title find get join lower upper split strip copy add".split()

DUNDER_METHODS = ["__init__", "__eq__", "__repr__", "__str__", "__len__"]

WORDS_NOWHERE = re.compile(
    r"\b(type|typing|typing_extensions|enum|Enum|IntEnum|StrEnum|Flag|IntFlag|Generic|Protocol|ABC|ABCMeta|namedtuple"
    r"|NamedTuple|TypedDict|TYPE_CHECKING|abstractmethod)\b|dataclass|overload|contextmanager"
)


def sources():
    return [(path, path.read_text(encoding="utf-8")) for path in sorted(PACKAGE.glob("*.py"))]


def bound_names(tree):
    names = [node.id for node in ast.walk(tree) if isinstance(node, ast.Name) and isinstance(node.ctx, ast.Store)]
    names += [node.arg for node in ast.walk(tree) if isinstance(node, ast.arg)]
    names += [node.name for node in ast.walk(tree) if isinstance(node, ast.ExceptHandler) and node.name]
    return names


def own_methods():
    return [
        inner.name
        for _path, text in sources()
        for node in ast.walk(ast.parse(text)) if isinstance(node, ast.ClassDef)
        for inner in node.body if isinstance(inner, ast.FunctionDef)
    ]


def own_values():
    return [
        node.attr
        for _path, text in sources()
        for node in ast.walk(ast.parse(text)) if isinstance(node, ast.Attribute) and isinstance(node.ctx, ast.Store)
    ]


def is_walk(node):
    if not isinstance(node, ast.Call):
        return False
    if isinstance(node.func, ast.Name):
        return node.func.id in WALKED_AT_ONCE
    return isinstance(node.func, ast.Attribute) and node.func.attr in WALKED_METHODS


def walked_on_the_spot(tree):
    spots = []
    for node in ast.walk(tree):
        if isinstance(node, (ast.For, ast.comprehension)):
            spots.append(node.iter)
        if isinstance(node, ast.Call) and isinstance(node.func, ast.Name) and node.func.id in WALKERS:
            spots.extend(node.args if node.func.id == "zip" else node.args[:1])
    return spots


def drawn_from(tree):
    return [node for node in ast.walk(tree) if isinstance(node, ast.ImportFrom)]


class Language(unittest.TestCase):
    def for_each_file(self, check):
        for path, text in sources():
            with self.subTest(file=path.name):
                check(path, text, ast.parse(text))

    def test_only_plain_files_lie_there(self):
        names = [path.name for path in PACKAGE.iterdir() if path.name != "__pycache__"]
        self.assertIn("__init__.py", names)
        for name in names:
            self.assertRegex(name, r"^[a-z0-9_]+\.py$")
            self.assertNotIn(name[:-3], dir(builtins))

    def test_sizes_and_signs(self):
        self.for_each_file(self.check_sizes_and_signs)

    def check_sizes_and_signs(self, _path, text, tree):
        lines = text.splitlines()
        self.assertLessEqual(len(lines), 400)
        self.assertLessEqual(max(len(line) for line in lines), 120)
        self.assertRegex(text, r"^[ -~\n]*$")
        self.assertIsNone(WORDS_NOWHERE.search(text))
        for node in ast.walk(tree):
            if isinstance(node, ast.FunctionDef):
                self.assertLessEqual(node.end_lineno - node.lineno + 1, 40, node.name)

    def test_only_listed_forms(self):
        self.for_each_file(self.check_only_listed_forms)

    def check_only_listed_forms(self, _path, _text, tree):
        for node in ast.walk(tree):
            self.assertIn(type(node).__name__, NODES, getattr(node, "lineno", 0))
            self.assertFalse(getattr(node, "orelse", []) and isinstance(node, (ast.For, ast.While)))
            self.assertFalse(getattr(node, "decorator_list", []))
            self.assertFalse(getattr(node, "finalbody", []))
            if isinstance(node, ast.arguments):
                self.assertFalse(node.vararg or node.kwarg or node.kwonlyargs or node.posonlyargs)
            if isinstance(node, ast.Assign):
                self.assertEqual(len(node.targets), 1)
            if isinstance(node, ast.Constant):
                self.assertNotIsInstance(node.value, (float, bytes, complex))
                self.assertFalse(isinstance(node.value, str) and "%" in node.value)

    def test_docstrings_stand_at_the_top_alone(self):
        self.for_each_file(self.check_docstrings_stand_at_the_top_alone)

    def check_docstrings_stand_at_the_top_alone(self, _path, _text, tree):
        self.assertIsNotNone(ast.get_docstring(tree))
        for node in ast.walk(tree):
            if isinstance(node, ast.Expr) and node is not tree.body[0]:
                self.assertIsInstance(node.value, ast.Call)

    def test_names(self):
        self.for_each_file(self.check_names)

    def check_names(self, _path, _text, tree):
        defined = [node.name for node in ast.walk(tree) if isinstance(node, (ast.FunctionDef, ast.ClassDef))]
        drawn = [alias.name for node in drawn_from(tree) for alias in node.names]
        classes = [node.name for node in ast.walk(tree) if isinstance(node, ast.ClassDef)]
        for name in bound_names(tree):
            self.assertRegex(name, r"^[A-Za-z][A-Za-z0-9_]*$")
            self.assertNotIn(name, dir(builtins) + drawn + classes)
        for name in defined:
            self.assertTrue(name in DUNDER_METHODS or re.match(r"^[A-Za-z][A-Za-z0-9_]*$", name), name)
        known = bound_names(tree) + defined + drawn + OWN_NAMES
        for node in ast.walk(tree):
            if isinstance(node, ast.Name):
                self.assertIn(node.id, known)

    def test_methods(self):
        self.for_each_file(self.check_methods)

    def check_methods(self, _path, _text, tree):
        known = METHODS + own_methods()
        for node in ast.walk(tree):
            if isinstance(node, ast.Call) and isinstance(node.func, ast.Attribute):
                self.assertIn(node.func.attr, known)

    def test_values_of_objects(self):
        shared = [name for kind in (str, int, list, tuple, dict, set, bytes) for name in dir(kind)]
        for name in own_values():
            self.assertTrue(name not in shared or name in SHARED_VALUE_NAMES, name)
            self.assertNotIn(name, own_methods())

    def test_what_is_walked_is_walked_on_the_spot(self):
        self.for_each_file(self.check_what_is_walked_is_walked_on_the_spot)

    def check_what_is_walked_is_walked_on_the_spot(self, _path, _text, tree):
        spots = walked_on_the_spot(tree)
        for node in ast.walk(tree):
            if is_walk(node):
                self.assertIn(node, spots, node.lineno)

    def test_is_stands_beside_none_and_truths_alone(self):
        self.for_each_file(self.check_is_stands_beside_none_and_truths_alone)

    def check_is_stands_beside_none_and_truths_alone(self, _path, _text, tree):
        for node in ast.walk(tree):
            if isinstance(node, ast.Compare) and any(isinstance(op, (ast.Is, ast.IsNot)) for op in node.ops):
                self.assertIsInstance(node.comparators[0], ast.Constant)
                self.assertIn(node.comparators[0].value, (None, True, False))

    def test_each_name_is_drawn_from_the_file_that_defines_it(self):
        self.for_each_file(self.check_each_name_is_drawn_from_the_file_that_defines_it)

    def check_each_name_is_drawn_from_the_file_that_defines_it(self, path, _text, tree):
        for node in drawn_from(tree):
            self.assertIn(node, tree.body)
            self.assertEqual(node.level, 0)
            self.assertRegex(node.module, r"^breakwords\.[a-z0-9_]+$")
            source = PACKAGE / (node.module.split(".")[1] + ".py")
            self.assertNotEqual(source, path)
            top = ast.parse(source.read_text(encoding="utf-8")).body
            defined = [part.name for part in top if isinstance(part, (ast.FunctionDef, ast.ClassDef))]
            defined += [part.targets[0].id for part in top if isinstance(part, ast.Assign)]
            for alias in node.names:
                self.assertIn(alias.name, defined)

    def test_no_two_files_draw_from_one_another(self):
        draws = {
            path.stem: {node.module.split(".")[1] for node in drawn_from(ast.parse(text))}
            for path, text in sources()
        }
        while draws:
            free = [name for name in draws if not draws[name] & set(draws)]
            self.assertTrue(free, sorted(draws))
            for name in free:
                draws.pop(name)


if __name__ == "__main__":
    unittest.main()
