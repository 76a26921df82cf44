"""Rules of the language that can be read off the package's files one by one."""

import ast
import builtins
import pathlib
import re
import unittest

ROOT = pathlib.Path(__file__).resolve().parent.parent
PACKAGE = ROOT / "susu"

BUILTINS = set(
    "len range enumerate zip min max sum abs sorted reversed int str bool bytes list tuple dict set frozenset "
    "isinstance ord repr any all divmod iter next Exception ValueError TypeError KeyError IndexError LookupError "
    "ZeroDivisionError ArithmeticError OverflowError RuntimeError NotImplementedError AttributeError StopIteration "
    "NotImplemented super property staticmethod classmethod print".split()
)
BARRED = (
    "type typing typing_extensions enum Enum IntEnum StrEnum Flag IntFlag Generic Protocol ABC ABCMeta namedtuple "
    "NamedTuple TypedDict TYPE_CHECKING abstractmethod"
).split()
UNUSED = "register mro elements open input law version_info with_traceback add_note".split()
METHODS = set(
    "append clear copy count endswith extend find get index insert isalnum isalpha isdigit islower isspace isupper "
    "items join keys ljust lower lstrip partition pop remove replace reverse rfind rjust rpartition rsplit rstrip "
    "setdefault split splitlines startswith strip update upper values zfill bit_length add discard sort".split()
)
STATEMENTS = (ast.ImportFrom, ast.FunctionDef, ast.ClassDef, ast.Assign)


def files():
    return sorted(path for path in PACKAGE.rglob("*") if path.is_file() and "__pycache__" not in path.parts)


def trees():
    return [(path, ast.parse(path.read_text())) for path in files()]


def own_methods():
    return {
        row.name
        for path, tree in trees() for node in ast.walk(tree) if isinstance(node, ast.ClassDef)
        for row in node.body if isinstance(row, ast.FunctionDef)
    }


def bound_names(node):
    """The names that a node gives a meaning to."""
    if isinstance(node, (ast.FunctionDef, ast.ClassDef)):
        return [node.name]
    if isinstance(node, ast.arg):
        return [node.arg]
    if isinstance(node, ast.alias):
        return [node.asname or node.name]
    if isinstance(node, ast.Name) and not isinstance(node.ctx, ast.Load):
        return [node.id]
    if isinstance(node, ast.Attribute) and isinstance(node.ctx, ast.Store):
        return [node.attr]
    return []


class LanguageTest(unittest.TestCase):
    def test_files(self):
        for path in files():
            self.assertRegex(path.name, r"^(__init__|__main__|[a-z][a-z0-9_]*)\.py$")

    def test_characters_and_sizes(self):
        for path in files():
            text = path.read_text()
            self.assertRegex(text, r"\A[\n -~]*\Z", path.name)
            lines = text.split("\n")
            self.assertLessEqual(len(lines), 399, path.name)
            self.assertLessEqual(max(len(line) for line in lines), 120, path.name)

    def test_functions_are_small(self):
        for path, tree in trees():
            for node in ast.walk(tree):
                if isinstance(node, ast.FunctionDef):
                    self.assertLessEqual(node.end_lineno - node.lineno + 1, 40, f"{path.name}: {node.name}")

    def test_barred_words(self):
        for path in files():
            text = path.read_text()
            for word in BARRED:
                self.assertIsNone(re.search(rf"\b{word}\b", text), f"{path.name}: {word}")
            self.assertIsNone(re.search("dataclass|overload|contextmanager", text), path.name)

    def test_module_level(self):
        for path, tree in trees():
            for row in tree.body:
                docstring = isinstance(row, ast.Expr) and isinstance(row.value, ast.Constant)
                self.assertTrue(docstring or isinstance(row, STATEMENTS), f"{path.name}:{row.lineno}")

    def test_imports_name_the_defining_file(self):
        for path, tree in trees():
            for node in ast.walk(tree):
                self.assertNotIsInstance(node, ast.Import, path.name)
                if isinstance(node, ast.ImportFrom):
                    self.assertIn(node, tree.body, path.name)
                    self.assertEqual(node.level, 0)
                    source = ast.parse((ROOT / (node.module.replace(".", "/") + ".py")).read_text())
                    there = [name for row in source.body for part in ast.walk(row) for name in bound_names(part)]
                    for alias in node.names:
                        self.assertIn(alias.name, there, path.name)

    def test_names(self):
        for path, tree in trees():
            for node in ast.walk(tree):
                for name in bound_names(node):
                    if name == "__init__":
                        continue
                    place = f"{path.name}: {name}"
                    self.assertNotIn(name, UNUSED, place)
                    self.assertFalse(name.startswith("_"), place)
                    if not isinstance(node, ast.Attribute):
                        self.assertFalse(hasattr(builtins, name), place)
                if isinstance(node, ast.Name) and hasattr(builtins, node.id):
                    self.assertIn(node.id, BUILTINS, path.name)

    def test_methods_that_are_called(self):
        allowed = METHODS | own_methods() | {"__init__"}
        for path, tree in trees():
            for node in ast.walk(tree):
                if isinstance(node, ast.Call) and isinstance(node.func, ast.Attribute):
                    self.assertIn(node.func.attr, allowed, f"{path.name}:{node.lineno}")

    def test_no_name_is_a_method_and_an_attribute(self):
        stored = {
            node.attr for path, tree in trees() for node in ast.walk(tree)
            if isinstance(node, ast.Attribute) and not isinstance(node.ctx, ast.Load)
        }
        self.assertEqual(sorted(stored & own_methods()), [])

    def test_no_local_name_is_an_import_or_a_class(self):
        for path, tree in trees():
            top = [
                name for row in tree.body if isinstance(row, (ast.ImportFrom, ast.ClassDef))
                for part in (row.names if isinstance(row, ast.ImportFrom) else [row]) for name in bound_names(part)
            ]
            self.assertEqual(len(top), len(set(top)), path.name)
            for node in ast.walk(tree):
                if isinstance(node, (ast.arg, ast.Name)) and not isinstance(getattr(node, "ctx", None), ast.Load):
                    for name in bound_names(node):
                        self.assertNotIn(name, top, f"{path.name}:{node.lineno}")

    def test_values(self):
        for path, tree in trees():
            for node in ast.walk(tree):
                place = f"{path.name}:{getattr(node, 'lineno', 0)}"
                self.assertNotIsInstance(node, (ast.Div, ast.Global, ast.AsyncFunctionDef, ast.Await), place)
                if isinstance(node, ast.Constant):
                    self.assertNotIsInstance(node.value, (float, complex), place)
                    if isinstance(node.value, str):
                        self.assertNotIn("%", node.value, place)
                if isinstance(node, ast.Compare) and isinstance(node.ops[0], (ast.Is, ast.IsNot)):
                    self.assertIsInstance(node.comparators[0], ast.Constant, place)


if __name__ == "__main__":
    unittest.main()
