"""Some rules of LANGUAGE.md that are easily broken unseen, looked up in the package's files."""

import ast
import builtins
import pathlib
import re
import unittest
import warnings

PACKAGE = pathlib.Path(__file__).resolve().parent.parent / "leasepair"
FILES = sorted(PACKAGE.glob("*.py"))
BUILTINS = set(
    "len range enumerate zip min max sum abs sorted reversed int str bool bytes list tuple dict set frozenset isinstance "
    "ord repr any all divmod iter next".split()
)
METHODS = {"__init__", "__eq__", "__repr__", "__str__", "__len__"}
WORDS = (
    "type typing typing_extensions enum Enum IntEnum StrEnum Flag IntFlag Generic Protocol ABC ABCMeta namedtuple "
    "NamedTuple TypedDict TYPE_CHECKING abstractmethod"
).split()


def own_attributes(tree):
    return {
        node.attr for node in ast.walk(tree)
        if isinstance(node, ast.Attribute) and isinstance(node.ctx, ast.Store)
    }


def own_methods(tree):
    return {
        part.name for node in ast.walk(tree) if isinstance(node, ast.ClassDef)
        for part in node.body if isinstance(part, ast.FunctionDef)
    }


def trees():
    return [ast.parse(path.read_text(encoding="ascii"), path.name) for path in FILES]


class Language(unittest.TestCase):

    def test_files(self):
        self.assertIn("__init__.py", [path.name for path in FILES])
        kept = [path for path in PACKAGE.iterdir() if path.name != "__pycache__"]
        self.assertEqual(sorted(kept), FILES)

    def test_sizes_and_signs(self):
        for path in FILES:
            rows = path.read_text(encoding="ascii").split("\n")
            with self.subTest(file=path.name):
                self.assertLessEqual(len(rows), 399)
                self.assertLessEqual(max(len(row) for row in rows), 120)
                self.assertEqual([row for row in rows if not re.fullmatch("[ -~]*", row)], [])

    def test_no_warnings(self):
        with warnings.catch_warnings():
            warnings.simplefilter("error")
            for path in FILES:
                compile(path.read_text(encoding="ascii"), path.name, "exec")

    def test_functions_are_short(self):
        for tree in trees():
            for node in ast.walk(tree):
                if isinstance(node, ast.FunctionDef):
                    self.assertLessEqual(node.end_lineno - node.lineno + 1, 40, node.name)

    def test_words(self):
        for path in FILES:
            text = path.read_text(encoding="ascii")
            with self.subTest(file=path.name):
                self.assertEqual([word for word in WORDS if re.search(rf"\b{word}\b", text)], [])
                self.assertNotRegex(text, "dataclass|overload|contextmanager")

    def test_imports(self):
        for tree in trees():
            for node in ast.walk(tree):
                self.assertNotIsInstance(node, ast.Import)
                if isinstance(node, ast.ImportFrom):
                    self.assertRegex(node.module, r"^leasepair\.[a-z]+$")
                    self.assertIn(node, tree.body)

    def test_names(self):
        barred = (ast.Global, ast.AsyncFunctionDef, ast.Div)
        for tree in trees():
            for node in ast.walk(tree):
                self.assertNotIsInstance(node, barred)
                if isinstance(node, ast.Name):
                    self.assertFalse(node.id.startswith("_"), node.id)
                if isinstance(node, ast.FunctionDef) and node.name.startswith("_"):
                    self.assertIn(node.name, METHODS)
                if isinstance(node, ast.Constant):
                    self.assertNotIsInstance(node.value, float)
                    self.assertNotIn("%", str(node.value))

    def test_builtins(self):
        errors = {name for name in dir(builtins) if name.endswith("Error")}
        for tree in trees():
            for node in ast.walk(tree):
                if isinstance(node, ast.Name) and node.id in dir(builtins):
                    self.assertIn(node.id, BUILTINS | errors)
                    self.assertIsInstance(node.ctx, ast.Load)
                if isinstance(node, ast.arg):
                    self.assertNotIn(node.arg, dir(builtins))

    def test_is_with_none_and_truths_only(self):
        for tree in trees():
            for node in ast.walk(tree):
                if isinstance(node, ast.Compare) and any(isinstance(sign, (ast.Is, ast.IsNot)) for sign in node.ops):
                    self.assertIn(repr(node.comparators[-1].value), ("None", "True", "False"))

    def test_told_texts_and_sameness_assign_lists_only(self):
        for tree in trees():
            for method in ast.walk(tree):
                if isinstance(method, ast.FunctionDef) and method.name in METHODS - {"__init__"}:
                    for node in ast.walk(method):
                        if isinstance(node, (ast.Assign, ast.AugAssign)):
                            self.assertIsInstance(node.value, (ast.List, ast.ListComp), method.name)

    def test_no_name_is_a_method_and_an_attribute(self):
        methods = set().union(*[own_methods(tree) for tree in trees()])
        attributes = set().union(*[own_attributes(tree) for tree in trees()])
        self.assertEqual(methods & attributes, set())


if __name__ == "__main__":
    unittest.main()
