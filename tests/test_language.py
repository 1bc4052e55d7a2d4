"""The rules for the files of the package that can be checked from outside."""

import ast
import re
import unittest
from pathlib import Path

ROOT = Path(__file__).resolve().parent.parent
PACKAGE = ROOT / "caseflow"

BUILTINS = set(
    "len range enumerate zip min max sum abs sorted reversed int str bool list tuple dict set isinstance ord repr "
    "any all divmod Exception ValueError TypeError KeyError IndexError LookupError ZeroDivisionError "
    "ArithmeticError OverflowError RuntimeError NotImplementedError NotImplemented".split()
)
METHODS = set(
    "append clear copy count endswith extend find get index insert isalnum isalpha isdigit islower isspace isupper "
    "items join keys ljust lower lstrip partition pop remove replace reverse rfind rjust rpartition rsplit rstrip "
    "setdefault split splitlines startswith strip update upper values zfill bit_length add discard".split()
)
LIBRARY = {
    "heapq": "heappush heappop heapify heapreplace heappushpop".split(),
    "math": "gcd lcm isqrt comb perm factorial".split(),
    "itertools": "product combinations permutations chain accumulate pairwise islice zip_longest".split(),
    "collections": "defaultdict deque".split(),
}
WORDS = (
    "type typing typing_extensions enum Enum IntEnum StrEnum Flag IntFlag Generic Protocol ABC ABCMeta namedtuple "
    "NamedTuple TypedDict TYPE_CHECKING abstractmethod open input law mro elements eval exec compile globals locals "
    "vars dir id exit quit help os sys gc importlib builtins async await lambda global float frozenset"
).split()
NOT_USED = (
    ast.Import, ast.AsyncFunctionDef, ast.AsyncFor, ast.AsyncWith, ast.Await, ast.Global, ast.AnnAssign,
    ast.Div, ast.Try, ast.Lambda, ast.NamedExpr, ast.GeneratorExp, ast.Match, ast.With,
)
DECORATORS = ("property", "staticmethod", "classmethod", "setter")


def files():
    return sorted(path for path in PACKAGE.rglob("*") if path.is_file() and "__pycache__" not in path.parts)


def trees():
    return [(path, ast.parse(path.read_text())) for path in files()]


def bound_names(tree):
    """Returns the names that a file gives a meaning, its imports and parameters included."""
    names = set()
    for node in ast.walk(tree):
        if isinstance(node, (ast.FunctionDef, ast.ClassDef)):
            names.add(node.name)
        if isinstance(node, ast.Name) and isinstance(node.ctx, ast.Store):
            names.add(node.id)
        if isinstance(node, ast.arg):
            names.add(node.arg)
        if isinstance(node, ast.alias):
            names.add(node.name)
    return names


class Files(unittest.TestCase):

    def test_names(self):
        for path in files():
            self.assertRegex(path.name, r"^([a-z][a-z0-9_]*|__init__|__main__)\.py$")
            self.assertTrue((path.parent / "__init__.py").is_file(), path)

    def test_sizes(self):
        for path in files():
            lines = path.read_text().split("\n")
            self.assertLess(len(lines), 400, path)
            self.assertLessEqual(max(len(line) for line in lines), 120, path)

    def test_characters(self):
        for path in files():
            self.assertEqual(re.findall(r"[^ -~\n]", path.read_text()), [], path)

    def test_functions_are_small(self):
        for path, tree in trees():
            for node in ast.walk(tree):
                if isinstance(node, ast.FunctionDef):
                    self.assertLessEqual(node.end_lineno - node.lineno + 1, 40, (path, node.name))


class Code(unittest.TestCase):

    def test_words(self):
        for path, tree in trees():
            names = bound_names(tree) | {node.id for node in ast.walk(tree) if isinstance(node, ast.Name)}
            names |= {node.attr for node in ast.walk(tree) if isinstance(node, ast.Attribute)}
            self.assertEqual(sorted(names & set(WORDS)), [], path)

    def test_statements(self):
        for path, tree in trees():
            for node in ast.walk(tree):
                self.assertNotIsInstance(node, NOT_USED, (path, getattr(node, "lineno", 0)))
                if isinstance(node, ast.Constant):
                    self.assertIsInstance(node.value, (int, str, bool, type(None)), path)

    def test_nothing_is_annotated(self):
        for path, tree in trees():
            for node in ast.walk(tree):
                if isinstance(node, ast.FunctionDef):
                    self.assertIsNone(node.returns, (path, node.name))
                if isinstance(node, ast.arg):
                    self.assertIsNone(node.annotation, (path, node.arg))

    def test_is_stands_beside_constants(self):
        for path, tree in trees():
            for node in ast.walk(tree):
                if isinstance(node, ast.Compare) and isinstance(node.ops[0], (ast.Is, ast.IsNot)):
                    self.assertIsInstance(node.comparators[0], ast.Constant, (path, node.lineno))
                    self.assertIn(node.comparators[0].value, (None, True, False))

    def test_builtins(self):
        for path, tree in trees():
            bound = bound_names(tree)
            self.assertEqual(sorted(bound & BUILTINS), [], path)
            for node in ast.walk(tree):
                if isinstance(node, ast.Name) and node.id not in bound:
                    self.assertIn(node.id, BUILTINS | set(DECORATORS), (path, node.lineno))

    def test_methods(self):
        own = {node.name for _, tree in trees() for node in ast.walk(tree) if isinstance(node, ast.FunctionDef)}
        for path, tree in trees():
            for node in ast.walk(tree):
                if isinstance(node, ast.Call) and isinstance(node.func, ast.Attribute):
                    self.assertIn(node.func.attr, METHODS | own, (path, node.lineno))

    def test_decorators(self):
        for path, tree in trees():
            for node in ast.walk(tree):
                for decorator in getattr(node, "decorator_list", []):
                    self.assertIn(getattr(decorator, "id", getattr(decorator, "attr", "")), DECORATORS, path)


class Imports(unittest.TestCase):

    def imports(self):
        for path, tree in trees():
            for node in ast.walk(tree):
                if isinstance(node, ast.ImportFrom):
                    yield path, node

    def test_names_the_file_that_defines_it(self):
        for path, node in self.imports():
            self.assertEqual(node.level, 0, path)
            if node.module in LIBRARY:
                self.assertEqual([a.name for a in node.names if a.name not in LIBRARY[node.module]], [], path)
                continue
            target = ROOT / (node.module.replace(".", "/") + ".py")
            self.assertTrue(target.is_file(), (path, node.module))
            body = ast.parse(target.read_text()).body
            there = {part.name for part in body if isinstance(part, (ast.FunctionDef, ast.ClassDef))}
            there |= {part.targets[0].id for part in body if isinstance(part, ast.Assign)}
            self.assertEqual([a.name for a in node.names if a.name not in there or a.asname], [], path)

    def test_each_imported_name_is_used(self):
        for path, tree in trees():
            used = {node.id for node in ast.walk(tree) if isinstance(node, ast.Name)}
            imported = {a.name for node in ast.walk(tree) if isinstance(node, ast.ImportFrom) for a in node.names}
            self.assertEqual(sorted(imported - used), [], path)

    def test_no_two_files_import_from_each_other(self):
        leads = {}
        for path, node in self.imports():
            name = ".".join(path.relative_to(ROOT).with_suffix("").parts)
            leads.setdefault(name, set()).add(node.module)
        for begin in leads:
            reached, waiting = set(), [begin]
            while waiting:
                for module in leads.get(waiting.pop(), ()):
                    if module not in reached:
                        reached.add(module)
                        waiting.append(module)
            self.assertNotIn(begin, reached)


if __name__ == "__main__":
    unittest.main()
