"""The form of the package's own files, as far as it can be seen from their trees."""

import ast
import builtins
import re
import unittest
from pathlib import Path

PACKAGE = Path(__file__).resolve().parent.parent / "measuredtables"
FILES = {path.stem: path for path in sorted(PACKAGE.glob("*.py"))}
NODES = set("""
    Module FunctionDef ClassDef arguments arg Lambda ImportFrom alias Assign AugAssign If While For Return Break Continue
    Pass Raise Try ExceptHandler Expr Call Attribute Subscript Slice Name Constant List Tuple Dict ListComp comprehension
    BinOp UnaryOp BoolOp Compare IfExp JoinedStr FormattedValue Add Sub Mult FloorDiv Mod Pow BitAnd BitOr BitXor LShift
    RShift Invert Not USub And Or Eq NotEq Lt LtE Gt GtE Is IsNot In NotIn Load Store keyword
""".split())
OWN = set("""
    len range enumerate zip min max sum abs sorted reversed int str bool list tuple dict set frozenset isinstance ord repr
    any all divmod Exception ValueError TypeError KeyError IndexError LookupError ZeroDivisionError ArithmeticError
    OverflowError RuntimeError NotImplementedError AttributeError StopIteration
""".split())
METHODS = set("""
    append clear copy count endswith extend find get index insert isalnum isalpha isdigit islower isspace isupper items
    join keys ljust lower lstrip partition pop remove replace reverse rfind rjust rpartition rsplit rstrip setdefault
    split splitlines startswith strip update upper values zfill bit_length
""".split())
BANNED_WORDS = re.compile(
    r"\b(type|typing|typing_extensions|enum|Enum|IntEnum|StrEnum|Flag|IntFlag|Generic|Protocol|ABC|ABCMeta|namedtuple"
    r"|NamedTuple|TypedDict|TYPE_CHECKING|abstractmethod)\b|dataclass|overload|contextmanager")
BANNED_NAMES = set("""
    register mro elements open input version_info with_traceback add_note attrgetter breakpoint builtins compile
    copyright credits delattr dir eval exec exit gc getattr globals hasattr help id importlib license locals methodcaller
    os quit setattr super type vars sys format format_map args encode sort
""".split())
VALUES_OF_PYTHON = {name for kind in (str, int, list, dict, set, bytes, tuple) for name in dir(kind)}


def walk(tree, kind):
    return [node for node in ast.walk(tree) if isinstance(node, kind)]


def names_at_top(tree):
    names = []
    for node in tree.body:
        if isinstance(node, (ast.FunctionDef, ast.ClassDef)):
            names.append(node.name)
        elif isinstance(node, ast.Assign):
            names.append(node.targets[0].id)
        elif isinstance(node, ast.ImportFrom):
            names.extend(alias.name for alias in node.names)
    return names


def bound_in(function):
    names = [argument.arg for argument in function.args.args]
    return names + [node.id for node in walk(function, ast.Name) if isinstance(node.ctx, ast.Store)]


class Language(unittest.TestCase):
    def setUp(self):
        self.texts = {name: path.read_text(encoding="utf-8") for name, path in FILES.items()}
        self.trees = {name: ast.parse(text) for name, text in self.texts.items()}

    def test_files(self):
        found = [path for path in PACKAGE.iterdir() if path.name != "__pycache__"]
        self.assertEqual(sorted(found), sorted(FILES.values()))
        for name in FILES:
            self.assertRegex(name, "^([a-z][a-z0-9_]*|__init__)$")
            self.assertNotIn(name, dir(builtins))

    def test_signs_and_sizes(self):
        for name, text in self.texts.items():
            lines = text.split("\n")
            self.assertLessEqual(len(lines), 400, name)
            for number, line in enumerate(lines, 1):
                self.assertLessEqual(len(line), 120, (name, number))
                self.assertTrue(all(" " <= sign <= "~" for sign in line), (name, number))
            self.assertIsNone(BANNED_WORDS.search(text), name)
            for function in walk(self.trees[name], ast.FunctionDef):
                self.assertLessEqual(function.end_lineno - function.lineno + 1, 40, (name, function.name))

    def test_nodes(self):
        for name, tree in self.trees.items():
            for node in ast.walk(tree):
                self.assertIn(node.__class__.__name__, NODES, (name, getattr(node, "lineno", 0)))
            for node in walk(tree, ast.Assign):
                self.assertEqual(len(node.targets), 1, (name, node.lineno))
                self.assertNotIsInstance(node.targets[0], (ast.Tuple, ast.List), (name, node.lineno))
            for node in walk(tree, ast.ListComp):
                self.assertEqual(len(node.generators), 1, (name, node.lineno))
                self.assertLessEqual(len(node.generators[0].ifs), 1, (name, node.lineno))
            for node in walk(tree, (ast.For, ast.While)):
                self.assertEqual(node.orelse, [], (name, node.lineno))

    def test_values(self):
        for name, tree in self.trees.items():
            for node in walk(tree, ast.Constant):
                self.assertIsInstance(node.value, (int, str, bool, None.__class__), (name, node.lineno))
                if isinstance(node.value, str) and node.lineno > 1:
                    self.assertNotIn("%", node.value, (name, node.lineno))
            for node in walk(tree, ast.BinOp):
                if isinstance(node.op, ast.Pow):
                    self.assertIn(getattr(node.right, "value", -1), range(65), (name, node.lineno))
            for node in walk(tree, ast.Compare):
                for op, right in zip(node.ops, node.comparators):
                    if isinstance(op, (ast.Is, ast.IsNot)):
                        self.assertIn(getattr(right, "value", 0), (None, True, False), (name, node.lineno))

    def test_values_at_top(self):
        plain = (ast.Constant, ast.Tuple, ast.List, ast.Dict, ast.UnaryOp, ast.USub, ast.Load)
        for name, tree in self.trees.items():
            for node in tree.body:
                self.assertIsInstance(node, (ast.Expr, ast.ImportFrom, ast.Assign, ast.FunctionDef, ast.ClassDef), name)
                if isinstance(node, ast.Assign):
                    self.assertTrue(all(isinstance(sub, plain) for sub in ast.walk(node.value)), (name, node.lineno))

    def test_functions(self):
        for name, tree in self.trees.items():
            for function in walk(tree, ast.FunctionDef):
                where = (name, function.name)
                self.assertEqual(function.decorator_list, [], where)
                self.assertIsNone(function.args.vararg or function.args.kwarg or function.returns, where)
                self.assertEqual(function.args.kwonlyargs + function.args.posonlyargs, [], where)
                self.assertIsNone(ast.get_docstring(function), where)
                for argument in function.args.args:
                    self.assertIsNone(argument.annotation, where)

    def test_names(self):
        for name, tree in self.trees.items():
            top = names_at_top(tree)
            self.assertEqual(len(top), len(set(top)), name)
            taken = [node.name for node in tree.body if isinstance(node, ast.ClassDef)]
            taken += [alias.name for node in walk(tree, ast.ImportFrom) for alias in node.names]
            for function in walk(tree, ast.FunctionDef):
                for bound in bound_in(function):
                    self.assertNotIn(bound, taken + dir(builtins), (name, function.name))
                    self.assertFalse(bound.startswith("_"), (name, function.name))
            for node in walk(tree, ast.Name):
                self.assertNotIn(node.id, BANNED_NAMES, (name, node.lineno))
                if node.id in dir(builtins):
                    self.assertIn(node.id, OWN, (name, node.lineno))

    def test_imports(self):
        drawn = {}
        for name, tree in self.trees.items():
            drawn[name] = []
            for node in walk(tree, ast.ImportFrom):
                self.assertEqual(node.level, 0, (name, node.lineno))
                package, module = node.module.split(".")
                self.assertEqual(package, "measuredtables")
                defined = [other for other in names_at_top(self.trees[module])]
                imported = [alias.name for sub in walk(self.trees[module], ast.ImportFrom) for alias in sub.names]
                used = {sub.id for sub in walk(tree, ast.Name)}
                for alias in node.names:
                    self.assertIsNone(alias.asname)
                    self.assertIn(alias.name, set(defined) - set(imported), (name, node.lineno))
                    self.assertIn(alias.name, used, (name, "imported and not used"))
                drawn[name].append(module)
        order = []
        while len(order) < len(drawn):
            ready = [name for name in drawn if name not in order and all(other in order for other in drawn[name])]
            self.assertNotEqual(ready, [], "files draw from one another")
            order.extend(ready)

    def test_methods_and_values(self):
        methods, values, called = {"__init__"}, set(), set()
        for tree in self.trees.values():
            for node in walk(tree, ast.ClassDef):
                self.assertTrue(all(isinstance(sub, ast.FunctionDef) for sub in node.body), node.name)
                methods.update(sub.name for sub in node.body)
            calls = walk(tree, ast.Call)
            called.update(node.func.attr for node in calls if isinstance(node.func, ast.Attribute))
            functions = [node.func for node in calls]
            values.update(node.attr for node in walk(tree, ast.Attribute) if node not in functions)
        self.assertEqual(methods & values, set())
        self.assertLessEqual(called, methods | METHODS)
        self.assertEqual((methods | values) & BANNED_NAMES, set())
        self.assertEqual(values & VALUES_OF_PYTHON, set())
        self.assertLessEqual(methods & VALUES_OF_PYTHON, METHODS | {"__init__", "add", "discard"})

    def test_every_function_is_used(self):
        used = set()
        for tree in self.trees.values():
            used.update(node.id for node in walk(tree, ast.Name))
            used.update(node.attr for node in walk(tree, ast.Attribute))
        for tree in self.trees.values():
            for node in walk(tree, (ast.FunctionDef, ast.ClassDef)):
                self.assertIn(node.name, used | {"answers", "__init__"})


if __name__ == "__main__":
    unittest.main()
