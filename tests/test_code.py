"""The package's files: no clock, chance or file (point 1), and the rules of the language that are soon seen."""

import ast
import builtins
import pathlib
import re
import unittest

PACKAGE = pathlib.Path(__file__).resolve().parent.parent / "squareleads"

ALLOWED = set(
    "len range enumerate zip min max sum abs sorted reversed int str bool bytes list tuple dict set frozenset"
    " isinstance ord repr any all divmod Exception ValueError TypeError KeyError IndexError LookupError"
    " ZeroDivisionError ArithmeticError OverflowError RuntimeError NotImplementedError AttributeError"
    " StopIteration NotImplemented property staticmethod classmethod super".split()
)

BARRED_WORDS = re.compile(
    r"\b(type|typing|typing_extensions|enum|Enum|IntEnum|StrEnum|Flag|IntFlag|Generic|Protocol|ABC|ABCMeta"
    r"|namedtuple|NamedTuple|TypedDict|TYPE_CHECKING|abstractmethod)\b|dataclass|overload|contextmanager"
)

BARRED_NODES = (ast.Global, ast.AsyncFunctionDef, ast.AsyncFor, ast.AsyncWith, ast.Await, ast.Div, ast.MatMult)


def module_name(path):
    return "squareleads" if path.stem == "__init__" else "squareleads." + path.stem


class CodeTests(unittest.TestCase):
    def setUp(self):
        self.paths = sorted(PACKAGE.glob("*.py"))
        self.names = {module_name(path) for path in self.paths}

    def each_node(self):
        for path in self.paths:
            tree = ast.parse(path.read_text(encoding="utf-8"))
            for node in ast.walk(tree):
                yield f"{path.name}, line {getattr(node, 'lineno', 0)}", tree, node

    def test_the_folder_holds_plain_files_alone(self):
        found = [path.name for path in PACKAGE.iterdir() if path.name != "__pycache__"]
        self.assertIn("__init__.py", found)
        for name in found:
            self.assertRegex(name, r"^(__init__|[a-z][a-z0-9_]*)\.py$")

    def test_characters_lines_and_words(self):
        for path in self.paths:
            with self.subTest(file=path.name):
                text = path.read_bytes().decode("utf-8")
                self.assertRegex(text, r"\A[ -~\n]*\Z")
                self.assertLessEqual(len(text.splitlines()), 400)
                self.assertLessEqual(max(len(line) for line in text.splitlines()), 120)
                self.assertIsNone(BARRED_WORDS.search(text))

    def test_imports_are_of_the_package_alone(self):
        for where, tree, node in self.each_node():
            self.assertNotIsInstance(node, ast.Import, where)
            if isinstance(node, ast.ImportFrom):
                self.assertIn(node, tree.body, where)
                self.assertEqual(node.level, 0, where)
                self.assertIn(node.module, self.names | {"__future__"}, where)
                self.assertNotIn("*", [alias.name for alias in node.names], where)

    def test_builtins_are_the_allowed_ones(self):
        for where, tree, node in self.each_node():
            if isinstance(node, ast.Name) and hasattr(builtins, node.id):
                self.assertIn(node.id, ALLOWED, where)
                self.assertIsInstance(node.ctx, ast.Load, where)

    def test_numbers_are_whole(self):
        for where, tree, node in self.each_node():
            self.assertNotIsInstance(node, BARRED_NODES, where)
            if isinstance(node, ast.Constant):
                self.assertNotIsInstance(node.value, (float, complex), where)

    def test_functions_are_small(self):
        for where, tree, node in self.each_node():
            if isinstance(node, ast.FunctionDef):
                self.assertLessEqual(node.end_lineno - node.lineno + 1, 40, where)


if __name__ == "__main__":
    unittest.main()
