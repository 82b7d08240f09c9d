"""The package keeps to the part of Python in ../shared/LANGUAGE.md, as far as a plain reading of its files shows."""

import ast
import builtins
import pathlib
import re
import unittest

PACKAGE = pathlib.Path(__file__).resolve().parent.parent / "stallyard"

NODES = set("""
Module Import ImportFrom alias FunctionDef ClassDef arguments arg Lambda Return Assign AugAssign If While For
Break Continue Pass Raise Try ExceptHandler Expr Call Attribute Subscript Slice Name Constant List Tuple Dict
Set Load Store ListComp comprehension BinOp UnaryOp BoolOp Compare IfExp JoinedStr FormattedValue keyword
Add Sub Mult FloorDiv Mod Pow BitAnd BitOr BitXor LShift RShift Invert Not USub UAdd And Or
Eq NotEq Lt LtE Gt GtE Is IsNot In NotIn
""".split())

WORDS = re.compile(
    r"\b(type|typing|typing_extensions|enum|Enum|IntEnum|StrEnum|Flag|IntFlag|Generic|Protocol|ABC|ABCMeta"
    r"|namedtuple|NamedTuple|TypedDict|TYPE_CHECKING|abstractmethod)\b|dataclass|overload|contextmanager"
)

BUILT_IN = set("""
len range enumerate zip min max sum abs sorted reversed int str bool list tuple dict set frozenset isinstance ord
repr any all divmod Exception ValueError KeyError IndexError LookupError ZeroDivisionError ArithmeticError
OverflowError RuntimeError NotImplementedError StopIteration TypeError AttributeError
""".split())

METHODS = set("""
append clear copy count endswith extend find get index insert isalnum isalpha isdigit islower isspace isupper items
join keys ljust lower lstrip partition pop remove replace reverse rfind rjust rpartition rsplit rstrip setdefault
split splitlines startswith strip update upper values zfill bit_length
""".split())

DOUBLE = ("__init__", "__eq__", "__repr__", "__str__", "__len__")


def bound_names(tree):
    names = set()
    for node in ast.walk(tree):
        if isinstance(node, (ast.FunctionDef, ast.ClassDef)):
            names.add(node.name)
        elif isinstance(node, ast.arg):
            names.add(node.arg)
        elif isinstance(node, ast.alias):
            names.add(node.asname or node.name)
        elif isinstance(node, ast.Name) and isinstance(node.ctx, ast.Store):
            names.add(node.id)
        elif isinstance(node, ast.ExceptHandler) and node.name:
            names.add(node.name)
    return names


class LanguageTest(unittest.TestCase):
    def setUp(self):
        paths = sorted(path for path in PACKAGE.iterdir() if path.name != "__pycache__")
        self.sources = {path.name: path.read_bytes() for path in paths}
        self.trees = {name: ast.parse(source) for name, source in self.sources.items()}

    def test_files_and_signs(self):
        for name, source in self.sources.items():
            self.assertRegex(name, r"\A[a-z][a-z0-9_]*\.py\Z|\A__init__\.py\Z")
            self.assertEqual([sign for sign in source if sign != 10 and not 32 <= sign <= 126], [], name)
            lines = source.decode("ascii").split("\n")
            self.assertLessEqual(len(lines), 400, name)
            for number, line in enumerate(lines, start=1):
                self.assertLessEqual(len(line), 120, f"{name}:{number}")
                self.assertIsNone(WORDS.search(line), f"{name}:{number}")

    def test_statements_and_expressions(self):
        for name, tree in self.trees.items():
            first = tree.body[0]
            for node in ast.walk(tree):
                place = f"{name}:{getattr(node, 'lineno', 0)}"
                self.assertIn(type(node).__name__, NODES, place)
                if isinstance(node, ast.Expr) and node is not first:
                    self.assertIsInstance(node.value, ast.Call, place)
                if isinstance(node, ast.Assign):
                    self.assertEqual(len(node.targets), 1, place)
                if isinstance(node, ast.Constant):
                    self.assertIn(type(node.value), (int, str, bool, type(None)), place)
                    self.assertFalse(isinstance(node.value, str) and "%" in node.value, place)

    def test_functions_and_classes(self):
        for name, tree in self.trees.items():
            for node in ast.walk(tree):
                place = f"{name}:{getattr(node, 'lineno', 0)}"
                if isinstance(node, (ast.FunctionDef, ast.ClassDef)):
                    self.assertEqual(node.decorator_list, [], place)
                if isinstance(node, ast.FunctionDef):
                    self.assertLessEqual(node.end_lineno - node.lineno + 1, 40, place)
                    self.assertIsNone(node.args.vararg or node.args.kwarg, place)
                    self.assertEqual(node.args.kwonlyargs + node.args.posonlyargs, [], place)
                if isinstance(node, ast.ClassDef):
                    self.assertLessEqual(len(node.bases), 1, place)
                    self.assertTrue(all(isinstance(part, (ast.FunctionDef, ast.Pass)) for part in node.body), place)

    def test_imports(self):
        for name, tree in self.trees.items():
            for node in ast.walk(tree):
                self.assertNotIsInstance(node, ast.Import, name)
                if isinstance(node, ast.ImportFrom):
                    self.assertEqual(node.level, 0, name)
                    self.assertRegex(node.module, r"\Astallyard\.[a-z_]+\Z", name)
                    source = self.trees[node.module.partition(".")[2] + ".py"]
                    own = [part.name for part in source.body if isinstance(part, (ast.FunctionDef, ast.ClassDef))]
                    for part in node.names:
                        self.assertIn(part.name, own, name)

    def test_names(self):
        for name, tree in self.trees.items():
            bound = bound_names(tree)
            for word in sorted(bound - set(DOUBLE)):
                self.assertRegex(word, r"\A[A-Za-z][A-Za-z0-9_]*\Z", name)
                self.assertNotIn(word, BUILT_IN, name)
            for node in ast.walk(tree):
                if isinstance(node, ast.Name):
                    self.assertIn(node.id, bound | BUILT_IN, f"{name}:{node.lineno}")

    def test_locals(self):
        for name, tree in self.trees.items():
            taken = set(dir(builtins))
            for node in tree.body:
                if isinstance(node, ast.ClassDef):
                    taken.add(node.name)
                if isinstance(node, ast.ImportFrom):
                    taken.update(part.name for part in node.names)
            for node in ast.walk(tree):
                if isinstance(node, ast.arg):
                    self.assertNotIn(node.arg, taken, f"{name}:{node.lineno}")
                if isinstance(node, ast.Name) and isinstance(node.ctx, ast.Store):
                    self.assertNotIn(node.id, taken, f"{name}:{node.lineno}")

    def test_each_name_once_at_the_top(self):
        for name, tree in self.trees.items():
            bound = []
            for node in tree.body:
                if isinstance(node, (ast.FunctionDef, ast.ClassDef)):
                    bound.append(node.name)
                elif isinstance(node, ast.ImportFrom):
                    bound.extend(part.name for part in node.names)
                elif isinstance(node, ast.Assign):
                    bound.append(node.targets[0].id)
                else:
                    self.assertIsInstance(node, ast.Expr, name)
            self.assertEqual(len(bound), len(set(bound)), name)

    def test_calls_of_methods(self):
        own = set()
        for tree in self.trees.values():
            for node in ast.walk(tree):
                if isinstance(node, ast.ClassDef):
                    own.update(part.name for part in node.body if isinstance(part, ast.FunctionDef))
        for name, tree in self.trees.items():
            called = [node.func for node in ast.walk(tree) if isinstance(node, ast.Call)]
            for node in ast.walk(tree):
                if not isinstance(node, ast.Attribute):
                    continue
                place = f"{name}:{node.lineno}"
                if node in called:
                    self.assertIn(node.attr, METHODS | own, place)
                else:
                    self.assertNotIn(node.attr, METHODS | own, place)

    def test_is_and_written_texts(self):
        for name, tree in self.trees.items():
            for node in ast.walk(tree):
                place = f"{name}:{getattr(node, 'lineno', 0)}"
                if isinstance(node, ast.Compare) and any(isinstance(op, (ast.Is, ast.IsNot)) for op in node.ops):
                    self.assertIn(ast.unparse(node.comparators[-1]), ("None", "True", "False"), place)
                if isinstance(node, ast.FormattedValue):
                    self.assertIsInstance(node.value, ast.Name, place)
                    self.assertIsNone(node.format_spec, place)

    def test_no_name_is_a_method_here_and_a_value_there(self):
        methods = set()
        values = set()
        for tree in self.trees.values():
            for node in ast.walk(tree):
                if isinstance(node, ast.ClassDef):
                    methods.update(part.name for part in node.body if isinstance(part, ast.FunctionDef))
                if isinstance(node, ast.Attribute) and isinstance(node.ctx, ast.Store):
                    values.add(node.attr)
        self.assertEqual(sorted(methods & values), [])


if __name__ == "__main__":
    unittest.main()
