"""Some rules of LANGUAGE.md that are easily broken unseen, looked up in the package's files."""

import ast
import builtins
import pathlib
import re
import unittest
import warnings

PACKAGE = pathlib.Path(__file__).resolve().parent.parent / "leasepair"
FILES = sorted(PACKAGE.glob("*.py"))
BUILTINS = set(
    "len range enumerate zip min max sum abs sorted reversed int str bool bytes list tuple dict set frozenset isinstance "
    "ord repr any all divmod iter next".split()
)
METHODS = {"__init__", "__eq__", "__repr__", "__str__", "__len__"}
WORDS = (
    "type typing typing_extensions enum Enum IntEnum StrEnum Flag IntFlag Generic Protocol ABC ABCMeta namedtuple "
    "NamedTuple TypedDict TYPE_CHECKING abstractmethod"
).split()

# Methods of builtin values that LANGUAGE.md lists.
BUILTIN_METHODS = set(
    "append clear copy count endswith extend find get index insert isalnum isalpha isdigit islower isspace isupper items "
    "join keys ljust lower lstrip partition pop remove replace reverse rfind rjust rpartition rsplit rstrip setdefault split "
    "splitlines startswith strip update upper values zfill bit_length isascii".split()
)
UNUSED_NAMES = set(
    "register mro elements open input law version_info with_traceback add_note breakpoint compile dir eval exec exit "
    "getattr globals hasattr help id license locals os quit setattr super type vars sys".split()
)


def own_attributes(tree):
    return {
        node.attr for node in ast.walk(tree)
        if isinstance(node, ast.Attribute) and isinstance(node.ctx, ast.Store)
    }


def own_methods(tree):
    return {
        part.name for node in ast.walk(tree) if isinstance(node, ast.ClassDef)
        for part in node.body if isinstance(part, ast.FunctionDef)
    }


def module_names(tree):
    """What a file itself defines."""
    names = {node.name for node in tree.body if isinstance(node, (ast.FunctionDef, ast.ClassDef))}
    return names | {node.targets[0].id for node in tree.body if isinstance(node, ast.Assign)}


def trees():
    return [ast.parse(path.read_text(encoding="ascii"), path.name) for path in FILES]


class Language(unittest.TestCase):

    def test_files(self):
        self.assertIn("__init__.py", [path.name for path in FILES])
        kept = [path for path in PACKAGE.iterdir() if path.name != "__pycache__"]
        self.assertEqual(sorted(kept), FILES)

    def test_sizes_and_signs(self):
        for path in FILES:
            rows = path.read_text(encoding="ascii").split("\n")
            with self.subTest(file=path.name):
                self.assertLessEqual(len(rows), 399)
                self.assertLessEqual(max(len(row) for row in rows), 120)
                self.assertEqual([row for row in rows if not re.fullmatch("[ -~]*", row)], [])

    def test_no_warnings(self):
        with warnings.catch_warnings():
            warnings.simplefilter("error")
            for path in FILES:
                compile(path.read_text(encoding="ascii"), path.name, "exec")

    def test_functions_are_short(self):
        for tree in trees():
            for node in ast.walk(tree):
                if isinstance(node, ast.FunctionDef):
                    self.assertLessEqual(node.end_lineno - node.lineno + 1, 40, node.name)

    def test_words(self):
        for path in FILES:
            text = path.read_text(encoding="ascii")
            with self.subTest(file=path.name):
                self.assertEqual([word for word in WORDS if re.search(rf"\b{word}\b", text)], [])
                self.assertNotRegex(text, "dataclass|overload|contextmanager")

    def test_imports(self):
        for tree in trees():
            for node in ast.walk(tree):
                self.assertNotIsInstance(node, ast.Import)
                if isinstance(node, ast.ImportFrom):
                    self.assertRegex(node.module, r"^leasepair\.[a-z]+$")
                    self.assertIn(node, tree.body)

    def test_names(self):
        barred = (ast.Global, ast.AsyncFunctionDef, ast.Div)
        for tree in trees():
            for node in ast.walk(tree):
                self.assertNotIsInstance(node, barred)
                if isinstance(node, ast.Name):
                    self.assertFalse(node.id.startswith("_"), node.id)
                if isinstance(node, ast.FunctionDef) and node.name.startswith("_"):
                    self.assertIn(node.name, METHODS)
                if isinstance(node, ast.Constant):
                    self.assertNotIsInstance(node.value, float)
                    self.assertNotIn("%", str(node.value))

    def test_builtins(self):
        errors = {name for name in dir(builtins) if name.endswith("Error")}
        for tree in trees():
            for node in ast.walk(tree):
                if isinstance(node, ast.Name) and node.id in dir(builtins):
                    self.assertIn(node.id, BUILTINS | errors)
                    self.assertIsInstance(node.ctx, ast.Load)
                if isinstance(node, ast.arg):
                    self.assertNotIn(node.arg, dir(builtins))

    def test_is_with_none_and_truths_only(self):
        for tree in trees():
            for node in ast.walk(tree):
                if isinstance(node, ast.Compare) and any(isinstance(sign, (ast.Is, ast.IsNot)) for sign in node.ops):
                    self.assertIn(repr(node.comparators[-1].value), ("None", "True", "False"))

    def test_told_texts_and_sameness_assign_lists_only(self):
        for tree in trees():
            for method in ast.walk(tree):
                if isinstance(method, ast.FunctionDef) and method.name in METHODS - {"__init__"}:
                    for node in ast.walk(method):
                        if isinstance(node, (ast.Assign, ast.AugAssign)):
                            self.assertIsInstance(node.value, (ast.List, ast.ListComp), method.name)

    def test_no_generators(self):
        """Where a class has its own sameness, what is summed up, sorted or looked through is a list."""
        for tree in trees():
            for node in ast.walk(tree):
                self.assertNotIsInstance(node, (ast.GeneratorExp, ast.Yield, ast.YieldFrom))

    def test_sets_are_sorted_or_counted_on_the_spot(self):
        for tree in trees():
            calls = [node for node in ast.walk(tree) if isinstance(node, ast.Call) and isinstance(node.func, ast.Name)]
            fit = {id(part) for call in calls if call.func.id in ("sorted", "len") for part in call.args}
            found = [node for node in ast.walk(tree) if isinstance(node, (ast.Set, ast.SetComp))]
            found += [call for call in calls if call.func.id == "set"]
            self.assertEqual([node.lineno for node in found if id(node) not in fit], [])

    def test_no_variable_has_the_name_of_an_import_or_a_class(self):
        for tree in trees():
            taken = {name.name for node in tree.body if isinstance(node, ast.ImportFrom) for name in node.names}
            taken |= {node.name for node in tree.body if isinstance(node, ast.ClassDef)}
            bound = {node.arg for node in ast.walk(tree) if isinstance(node, ast.arg)}
            bound |= {node.id for node in ast.walk(tree) if isinstance(node, ast.Name) and isinstance(node.ctx, ast.Store)}
            self.assertEqual(taken & bound, set())

    def test_names_that_are_not_used(self):
        for tree in trees():
            names = {node.id for node in ast.walk(tree) if isinstance(node, ast.Name)}
            names |= {node.arg for node in ast.walk(tree) if isinstance(node, ast.arg)}
            names |= {node.attr for node in ast.walk(tree) if isinstance(node, ast.Attribute)}
            names |= {node.name for node in ast.walk(tree) if isinstance(node, (ast.FunctionDef, ast.ClassDef))}
            self.assertEqual(names & UNUSED_NAMES, set())

    def test_methods_that_are_called(self):
        own = set().union(*[own_methods(tree) for tree in trees()])
        for tree in trees():
            for node in ast.walk(tree):
                if isinstance(node, ast.Call) and isinstance(node.func, ast.Attribute):
                    self.assertIn(node.func.attr, own | BUILTIN_METHODS)

    def test_each_import_is_of_the_file_that_defines_it_and_none_goes_in_a_round(self):
        parsed = {path.stem: tree for path, tree in zip(FILES, trees())}
        defined = {name: module_names(tree) for name, tree in parsed.items()}
        behind = {}
        for name, tree in parsed.items():
            imports = [node for node in tree.body if isinstance(node, ast.ImportFrom)]
            behind[name] = {node.module.split(".")[1] for node in imports}
            for node in imports:
                for told in node.names:
                    self.assertIn(told.name, defined[node.module.split(".")[1]])
        while behind:
            free = [name for name, others in behind.items() if not others & set(behind)]
            self.assertNotEqual(free, [])
            behind = {name: others for name, others in behind.items() if name not in free}

    def test_no_name_is_a_method_and_an_attribute(self):
        methods = set().union(*[own_methods(tree) for tree in trees()])
        attributes = set().union(*[own_attributes(tree) for tree in trees()])
        self.assertEqual(methods & attributes, set())


if __name__ == "__main__":
    unittest.main()
