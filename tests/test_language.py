"""Holds the package's files to some rules of LANGUAGE.md; README.md says which are left to the eye."""

import ast
import builtins
import pathlib
import re
import unittest

PACKAGE = pathlib.Path(__file__).resolve().parent.parent / "talkleast"

NODES = """Module Expr Constant ImportFrom alias FunctionDef ClassDef arguments arg Lambda Return Assign AugAssign If
While For Break Continue Pass Raise Try ExceptHandler Call keyword Attribute Subscript Slice Name Load Store List Tuple
Dict BinOp UnaryOp BoolOp Compare IfExp ListComp comprehension JoinedStr FormattedValue Add Sub Mult FloorDiv Mod Pow
LShift RShift BitOr BitXor BitAnd USub UAdd Invert Not And Or Eq NotEq Lt LtE Gt GtE In NotIn Is IsNot""".split()

BUILTINS = """len range enumerate zip min max sum abs sorted reversed int str bool list tuple dict set frozenset
isinstance ord repr any all divmod Exception ValueError TypeError KeyError IndexError LookupError ZeroDivisionError
ArithmeticError OverflowError RuntimeError NotImplementedError AttributeError StopIteration""".split()

METHODS = """append clear copy count endswith extend find get index insert isalnum isalpha isdigit islower isspace
isupper items join keys ljust lower lstrip partition pop remove replace reverse rfind rjust rpartition rsplit rstrip
setdefault split splitlines startswith strip update upper values zfill bit_length""".split()

BARRED_WORDS = """type typing typing_extensions enum Enum IntEnum StrEnum Flag IntFlag Generic Protocol ABC ABCMeta
namedtuple NamedTuple TypedDict TYPE_CHECKING abstractmethod""".split()

BARRED_NAMES = """register mro elements open input version_info with_traceback add_note attrgetter breakpoint builtins
compile copyright credits delattr dir eval exec exit gc getattr globals hasattr help id importlib license locals
methodcaller os quit setattr super vars sys chr print float bytes""".split()

BARRED_FILES = ["test", "tests", "testing", "site", "conftest", "sitecustomize", "usercustomize"]


def files():
    return sorted(PACKAGE.glob("*.py"))


def tree_of(path):
    return ast.parse(path.read_text(encoding="ascii"))


def nodes_of(path, *kinds):
    return [node for node in ast.walk(tree_of(path)) if isinstance(node, kinds)]


def top_names(path):
    names = []
    for node in tree_of(path).body:
        if isinstance(node, (ast.FunctionDef, ast.ClassDef)):
            names.append(node.name)
        elif isinstance(node, ast.Assign):
            names.extend(target.id for target in node.targets)
    return names


def imported_names(path):
    return [alias.name for node in nodes_of(path, ast.ImportFrom) for alias in node.names]


def bound_names(path):
    """Names of parameters, locals and what walks a loop."""
    names = [node.arg for node in nodes_of(path, ast.arg)]
    stored = [node.id for node in nodes_of(path, ast.Name) if isinstance(node.ctx, ast.Store)]
    return [name for name in names + stored if name not in top_names(path)]


class Language(unittest.TestCase):
    def test_there_are_files(self):
        self.assertTrue(files())

    def test_files_and_signs(self):
        for path in PACKAGE.iterdir():
            if path.name == "__pycache__":
                continue
            with self.subTest(path.name):
                self.assertRegex(path.name, r"^[a-z0-9_]+\.py$")
                self.assertNotIn(path.stem, BARRED_FILES + BARRED_WORDS + dir(builtins))
                self.assertFalse(path.stem.startswith("test_"))
                self.assertNotRegex(path.read_bytes().decode("ascii"), r"[^ -~\n]")

    def test_words_that_stand_nowhere(self):
        for path in files():
            text = path.read_text(encoding="ascii")
            with self.subTest(path.name):
                self.assertEqual([word for word in re.findall(r"\w+", text) if word in BARRED_WORDS], [])
                self.assertNotRegex(text, "dataclass|overload|contextmanager")

    def test_sizes(self):
        for path in files():
            lines = path.read_text(encoding="ascii").split("\n")
            with self.subTest(path.name):
                self.assertLessEqual(len(lines) - 1, 400)
                self.assertLessEqual(max(map(len, lines)), 120)
                for node in nodes_of(path, ast.FunctionDef):
                    self.assertLessEqual(node.end_lineno - node.lineno + 1, 40, node.name)

    def test_forms(self):
        for path in files():
            for node in ast.walk(tree_of(path)):
                with self.subTest(path.name, line=getattr(node, "lineno", None)):
                    self.assertIn(type(node).__name__, NODES)
                    self.check_node(node)

    def check_node(self, node):
        if isinstance(node, ast.FunctionDef):
            self.assertEqual(node.decorator_list, [])
        if isinstance(node, ast.ClassDef):
            self.assertEqual((node.decorator_list, node.keywords), ([], []))
            self.assertLessEqual(len(node.bases), 1)
        if isinstance(node, ast.arguments):
            self.assertEqual((node.vararg, node.kwarg, node.kwonlyargs, node.posonlyargs), (None, None, [], []))
        if isinstance(node, ast.Assign):
            self.assertEqual(len(node.targets), 1)
        if isinstance(node, (ast.For, ast.While)):
            self.assertEqual(node.orelse, [])
        if isinstance(node, ast.Try):
            self.assertEqual(node.finalbody, [])
        if isinstance(node, ast.ListComp):
            self.assertEqual(len(node.generators), 1)
            self.assertLessEqual(len(node.generators[0].ifs), 1)
        if isinstance(node, ast.FormattedValue):
            self.assertIsInstance(node.value, ast.Name)
            self.assertIsNone(node.format_spec)
        if isinstance(node, ast.Constant):
            self.assertIn(type(node.value), (int, str, bool, type(None)))
            self.assertNotIn("%", str(node.value))
        if isinstance(node, ast.BinOp) and isinstance(node.op, ast.Pow):
            self.assertIsInstance(node.right, ast.Constant)
        if isinstance(node, ast.Compare) and isinstance(node.ops[0], (ast.Is, ast.IsNot)):
            self.assertIn(getattr(node.comparators[0], "value", 0), (None, True, False))

    def test_names(self):
        for path in files():
            known = top_names(path) + imported_names(path) + bound_names(path)
            known += [node.name for node in nodes_of(path, ast.FunctionDef)]
            known += [node.name for node in nodes_of(path, ast.ExceptHandler) if node.name]
            with self.subTest(path.name):
                for node in nodes_of(path, ast.Name):
                    self.assertNotIn(node.id, BARRED_NAMES)
                    self.assertIn(node.id, known + BUILTINS)
                for name in known:
                    self.assertFalse(name.startswith("_") and name != "__init__", name)
                for name in top_names(path) + bound_names(path):
                    self.assertNotIn(name, dir(builtins))
                self.assertEqual(sorted(set(top_names(path))), sorted(top_names(path)))
                self.assertEqual([name for name in bound_names(path) if name in imported_names(path)], [])

    def test_attributes(self):
        own = [node.name for path in files() for owner in nodes_of(path, ast.ClassDef)
               for node in owner.body if isinstance(node, ast.FunctionDef)]
        own += [node.attr for path in files() for node in nodes_of(path, ast.Attribute)
                if isinstance(node.ctx, ast.Store)]
        for path in files():
            for node in nodes_of(path, ast.Attribute):
                with self.subTest(path.name, line=node.lineno):
                    self.assertIn(node.attr, METHODS + own)

    def test_imports(self):
        drawn = {}
        for path in files():
            drawn[path.stem] = []
            for node in nodes_of(path, ast.ImportFrom):
                with self.subTest(path.name, line=node.lineno):
                    package, dot, module = node.module.partition(".")
                    self.assertEqual((node.level, package, dot), (0, "talkleast", "."))
                    self.assertEqual(node.col_offset, 0)
                    for alias in node.names:
                        self.assertIn(alias.name, top_names(PACKAGE / f"{module}.py"))
                    drawn[path.stem].append(module)
        self.assertEqual(drawn["__init__"], [])
        for name in drawn:
            self.assertNotIn(name, self.reached(drawn, drawn[name]))

    def reached(self, drawn, names):
        found = []
        waiting = list(names)
        while waiting:
            name = waiting.pop()
            if name not in found:
                found.append(name)
                waiting.extend(drawn[name])
        return found


if __name__ == "__main__":
    unittest.main()
