"""The package's files: no clock, chance or file (point 1), and the rules of the language that are soon seen."""

import ast
import builtins
import pathlib
import re
import unittest

PACKAGE = pathlib.Path(__file__).resolve().parent.parent / "squareleads"

ALLOWED = set(
    "len range enumerate zip min max sum abs sorted reversed int str bool bytes list tuple dict set frozenset"
    " isinstance ord repr any all divmod Exception ValueError TypeError KeyError IndexError LookupError"
    " ZeroDivisionError ArithmeticError OverflowError RuntimeError NotImplementedError AttributeError"
    " StopIteration NotImplemented property staticmethod classmethod super".split()
)

BARRED_WORDS = re.compile(
    r"\b(type|typing|typing_extensions|enum|Enum|IntEnum|StrEnum|Flag|IntFlag|Generic|Protocol|ABC|ABCMeta"
    r"|namedtuple|NamedTuple|TypedDict|TYPE_CHECKING|abstractmethod)\b|dataclass|overload|contextmanager"
)

BARRED_NODES = (ast.Global, ast.AsyncFunctionDef, ast.AsyncFor, ast.AsyncWith, ast.Await, ast.Div, ast.MatMult)


def module_name(path):
    return "squareleads" if path.stem == "__init__" else "squareleads." + path.stem


def defined_names(tree):
    """Give the names that a file defines itself at its module level."""
    names = set()
    for node in tree.body:
        if isinstance(node, (ast.FunctionDef, ast.ClassDef)):
            names.add(node.name)
        elif isinstance(node, ast.Assign):
            names.update(target.id for target in node.targets)
    return names


def taken_names(tree):
    """Give the names of a file's classes and imports, which nothing inside a function may have."""
    names = set()
    for node in tree.body:
        if isinstance(node, ast.ClassDef):
            names.add(node.name)
        elif isinstance(node, ast.ImportFrom):
            names.update(alias.asname or alias.name for alias in node.names)
    return names


class CodeTests(unittest.TestCase):
    def setUp(self):
        self.paths = sorted(PACKAGE.glob("*.py"))
        self.names = {module_name(path) for path in self.paths}

    def each_node(self):
        for path in self.paths:
            tree = ast.parse(path.read_text(encoding="utf-8"))
            for node in ast.walk(tree):
                yield f"{path.name}, line {getattr(node, 'lineno', 0)}", tree, node

    def test_the_folder_holds_plain_files_alone(self):
        found = [path.name for path in PACKAGE.iterdir() if path.name != "__pycache__"]
        self.assertIn("__init__.py", found)
        for name in found:
            self.assertRegex(name, r"^(__init__|[a-z][a-z0-9_]*)\.py$")

    def test_characters_lines_and_words(self):
        for path in self.paths:
            with self.subTest(file=path.name):
                text = path.read_bytes().decode("utf-8")
                self.assertRegex(text, r"\A[ -~\n]*\Z")
                self.assertLessEqual(len(text.splitlines()), 400)
                self.assertLessEqual(max(len(line) for line in text.splitlines()), 120)
                self.assertIsNone(BARRED_WORDS.search(text))

    def test_imports_are_of_the_package_alone(self):
        for where, tree, node in self.each_node():
            self.assertNotIsInstance(node, ast.Import, where)
            if isinstance(node, ast.ImportFrom):
                self.assertIn(node, tree.body, where)
                self.assertEqual(node.level, 0, where)
                self.assertIn(node.module, self.names | {"__future__"}, where)
                self.assertNotIn("*", [alias.name for alias in node.names], where)

    def test_builtins_are_the_allowed_ones(self):
        for where, tree, node in self.each_node():
            if isinstance(node, ast.Name) and hasattr(builtins, node.id):
                self.assertIn(node.id, ALLOWED, where)
                self.assertIsInstance(node.ctx, ast.Load, where)

    def test_numbers_are_whole(self):
        for where, tree, node in self.each_node():
            self.assertNotIsInstance(node, BARRED_NODES, where)
            if isinstance(node, ast.Constant):
                self.assertNotIsInstance(node.value, (float, complex), where)

    def test_functions_are_small(self):
        for where, tree, node in self.each_node():
            if isinstance(node, ast.FunctionDef):
                self.assertLessEqual(node.end_lineno - node.lineno + 1, 40, where)

    def test_imports_name_the_file_that_defines_the_name_and_never_turn_back(self):
        trees = {module_name(path): ast.parse(path.read_text(encoding="utf-8")) for path in self.paths}
        needs = {name: [node for node in tree.body if isinstance(node, ast.ImportFrom)]
                 for name, tree in trees.items()}
        for name, nodes in needs.items():
            for node in nodes:
                for alias in node.names:
                    self.assertIn(alias.name, defined_names(trees[node.module]), name)
        done = set()
        while len(done) < len(needs):
            ready = {name for name, nodes in needs.items() if {node.module for node in nodes} <= done}
            self.assertGreater(len(ready), len(done), "files import from each other")
            done = ready

    def test_local_names_are_no_classes_imports_or_builtins(self):
        for where, tree, node in self.each_node():
            name = None
            if isinstance(node, ast.arg):
                name = node.arg
            elif isinstance(node, ast.Name) and isinstance(node.ctx, ast.Store):
                name = node.id
            if name is not None:
                self.assertNotIn(name, taken_names(tree), where)
                self.assertFalse(hasattr(builtins, name), where)
                self.assertFalse(name.startswith("_"), where)

    def test_no_name_is_a_method_here_and_an_attribute_there(self):
        methods, stored, read = set(), set(), set()
        for where, tree, node in self.each_node():
            if isinstance(node, ast.ClassDef):
                methods.update(item.name for item in node.body if isinstance(item, ast.FunctionDef))
            elif isinstance(node, ast.Attribute):
                (stored if isinstance(node.ctx, ast.Store) else read).add(node.attr)
        self.assertEqual(methods & stored, set())
        self.assertEqual({name for name in read if hasattr(list, name)} & (methods | stored), set())
        self.assertLessEqual(read - methods - stored, {"append", "count"})

    def test_is_powers_and_strings(self):
        for where, tree, node in self.each_node():
            self.assertNotIsInstance(node, ast.Pow, where)
            if isinstance(node, ast.Compare):
                for sign, right in zip(node.ops, node.comparators):
                    if isinstance(sign, (ast.Is, ast.IsNot)):
                        self.assertIsInstance(right, ast.Constant, where)
                        self.assertIn(right.value, (None, True, False), where)
            if isinstance(node, ast.Constant) and isinstance(node.value, str):
                self.assertNotIn("%", node.value, where)


if __name__ == "__main__":
    unittest.main()
