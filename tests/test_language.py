"""The package's files, held against those rules of the language that a short test can see."""

import ast
import builtins
import re
import unittest
from pathlib import Path

PACKAGE = Path(__file__).resolve().parent.parent / "evenhand"

WORDS = re.compile(
    r"\b(type|typing|typing_extensions|enum|Enum|IntEnum|StrEnum|Flag|IntFlag|Generic|Protocol|ABC|ABCMeta"
    r"|namedtuple|NamedTuple|TypedDict|TYPE_CHECKING|abstractmethod)\b|dataclass|overload|contextmanager"
)

RULED_OUT = (
    ast.With, ast.Match, ast.Delete, ast.Global, ast.Nonlocal, ast.Assert, ast.Yield, ast.YieldFrom, ast.Await,
    ast.AsyncFunctionDef, ast.AsyncFor, ast.AsyncWith, ast.Div, ast.MatMult, ast.SetComp, ast.DictComp,
    ast.GeneratorExp, ast.NamedExpr, ast.Starred, ast.Import, ast.TryStar,
)

BUILT_IN = """
len range enumerate zip min max sum abs sorted reversed int str bool list tuple dict set frozenset isinstance ord repr
any all divmod Exception ValueError TypeError KeyError IndexError LookupError ZeroDivisionError ArithmeticError
OverflowError RuntimeError NotImplementedError AttributeError StopIteration
""".split()

METHODS = """
append clear copy count endswith extend find get index insert isalnum isalpha isdigit islower isspace isupper items
join keys ljust lower lstrip partition pop remove replace reverse rfind rjust rpartition rsplit rstrip setdefault split
splitlines startswith strip update upper values zfill bit_length
""".split()

DUNDERS = ("__init__", "__eq__", "__repr__", "__str__", "__len__")


def sources():
    return {path: path.read_text(encoding="utf-8") for path in sorted(PACKAGE.glob("*.py"))}


def nodes():
    return [(path, node) for path, text in sources().items() for node in ast.walk(ast.parse(text))]


class Language(unittest.TestCase):
    def test_files(self):
        names = [path.name for path in PACKAGE.iterdir() if path.name != "__pycache__"]
        self.assertIn("__init__.py", names)
        for name in names:
            self.assertRegex(name, r"\A([a-z][a-z0-9_]*|__init__|__main__)\.py\Z")

    def test_signs_sizes_and_words(self):
        for path, text in sources().items():
            with self.subTest(file=path.name):
                self.assertRegex(text, r"\A[ -~\n]*\Z")
                self.assertLessEqual(text.count("\n"), 400)
                self.assertLessEqual(max(len(line) for line in text.split("\n")), 120)
                self.assertIsNone(WORDS.search(text))

    def test_imports_draw_from_the_package_alone(self):
        for path, node in nodes():
            if isinstance(node, ast.ImportFrom) and node.module != "__future__":
                with self.subTest(file=path.name, line=node.lineno):
                    self.assertEqual(node.level, 0)
                    self.assertTrue(node.module.startswith("evenhand."))
                    self.assertNotIn("*", [name.name for name in node.names])

    def test_no_form_that_is_ruled_out(self):
        for path, node in nodes():
            with self.subTest(file=path.name, line=getattr(node, "lineno", None)):
                self.assertNotIsInstance(node, RULED_OUT)
                if isinstance(node, ast.Assign):
                    self.assertEqual(len(node.targets), 1)
                if isinstance(node, ast.Constant):
                    self.assertIsInstance(node.value, (int, str, type(None)))
                if isinstance(node, (ast.For, ast.While)):
                    self.assertEqual(node.orelse, [])

    def test_names_of_pythons_own(self):
        own = set(dir(builtins))
        for path, node in nodes():
            with self.subTest(file=path.name, line=getattr(node, "lineno", None)):
                if isinstance(node, ast.Name) and node.id in own:
                    self.assertIsInstance(node.ctx, ast.Load)
                    self.assertIn(node.id, BUILT_IN)
                if isinstance(node, ast.arg):
                    self.assertNotIn(node.arg, own)
                if isinstance(node, ast.Name):
                    self.assertFalse(node.id.startswith("_"))

    def test_methods(self):
        defined = [node.name for path, node in nodes() if isinstance(node, ast.FunctionDef)]
        for path, node in nodes():
            if isinstance(node, ast.Call) and isinstance(node.func, ast.Attribute):
                with self.subTest(file=path.name, line=node.lineno):
                    self.assertIn(node.func.attr, METHODS + defined)

    def test_functions_and_classes(self):
        for path, node in nodes():
            if isinstance(node, ast.FunctionDef):
                with self.subTest(file=path.name, function=node.name):
                    self.assertLessEqual(node.end_lineno - node.lineno + 1, 40)
                    self.assertEqual(node.decorator_list, [])
                    self.assertFalse(node.args.vararg or node.args.kwarg or node.args.kwonlyargs)
                    self.assertTrue(node.name in DUNDERS or not node.name.startswith("_"))
            if isinstance(node, ast.ClassDef):
                with self.subTest(file=path.name, name=node.name):
                    self.assertEqual(node.decorator_list, [])
                    self.assertLessEqual(len(node.bases), 1)


if __name__ == "__main__":
    unittest.main()
