"""The rules for the files of the package that can be checked from outside."""

import ast
import builtins
import re
import unittest
from pathlib import Path

ROOT = Path(__file__).resolve().parent.parent
PACKAGE = ROOT / "caseflow"

BUILTINS = set(
    "len range enumerate zip min max sum abs sorted reversed int str bool list tuple dict set isinstance ord repr "
    "any all divmod Exception ValueError TypeError KeyError IndexError LookupError ZeroDivisionError "
    "ArithmeticError OverflowError RuntimeError NotImplementedError NotImplemented".split()
)
METHODS = set(
    "append clear copy count endswith extend find get index insert isalnum isalpha isdigit islower isspace isupper "
    "items join keys ljust lower lstrip partition pop remove replace reverse rfind rjust rpartition rsplit rstrip "
    "setdefault split splitlines startswith strip update upper values zfill bit_length add discard".split()
)
LIBRARY = {
    "heapq": "heappush heappop heapify heapreplace heappushpop".split(),
    "math": "gcd lcm isqrt comb perm factorial".split(),
    "itertools": "product combinations permutations chain accumulate pairwise islice zip_longest".split(),
    "collections": "defaultdict deque".split(),
}
WORDS = (
    "type typing typing_extensions enum Enum IntEnum StrEnum Flag IntFlag Generic Protocol ABC ABCMeta namedtuple "
    "NamedTuple TypedDict TYPE_CHECKING abstractmethod open input law mro elements eval exec compile globals locals "
    "vars dir id exit quit help os sys gc importlib builtins async await lambda global float frozenset"
).split()
NOT_USED = (
    ast.Import, ast.AsyncFunctionDef, ast.AsyncFor, ast.AsyncWith, ast.Await, ast.Global, ast.AnnAssign,
    ast.Div, ast.Try, ast.Lambda, ast.NamedExpr, ast.GeneratorExp, ast.Match, ast.With,
)
DECORATORS = ("property", "staticmethod", "classmethod", "setter")


# What is iterated by these at once.
TAKERS = ("list", "tuple", "dict", "sorted", "sum", "min", "max", "any", "all", "enumerate", "zip")
PASSING = ("zip", "enumerate", "reversed", "range")


def files():
    return sorted(path for path in PACKAGE.rglob("*") if path.is_file() and "__pycache__" not in path.parts)


def trees():
    return [(path, ast.parse(path.read_text())) for path in files()]


def bound_names(tree):
    """Returns the names that a file gives a meaning, its imports and parameters included."""
    names = set()
    for node in ast.walk(tree):
        if isinstance(node, (ast.FunctionDef, ast.ClassDef)):
            names.add(node.name)
        if isinstance(node, ast.Name) and isinstance(node.ctx, ast.Store):
            names.add(node.id)
        if isinstance(node, ast.arg):
            names.add(node.arg)
        if isinstance(node, ast.alias):
            names.add(node.name)
    return names


def parents(tree):
    """Returns for each node of a file the node above it."""
    return {child: node for node in ast.walk(tree) for child in ast.iter_child_nodes(node)}


def called_name(node):
    """Returns the bare name or the attribute that is called, or None."""
    if not isinstance(node, ast.Call):
        return None
    return getattr(node.func, "id", getattr(node.func, "attr", None))


def is_iterated_at_once(node, above):
    """Returns whether the value of a call is iterated where it stands."""
    if isinstance(above, (ast.For, ast.comprehension)):
        return above.iter is node
    if isinstance(above, ast.YieldFrom):
        return True
    if isinstance(above, ast.Call) and isinstance(above.func, ast.Name):
        return above.func.id in TAKERS and above.args[0] is node or above.func.id == "zip"
    return isinstance(above, ast.Call) and above.func.attr == "join"


def functions(tree):
    return [node for node in ast.walk(tree) if isinstance(node, ast.FunctionDef)]


def own_nodes(function):
    """Yields the nodes of a function, but not those of functions nested in it."""
    for child in ast.iter_child_nodes(function):
        yield child
        if not isinstance(child, ast.FunctionDef):
            yield from own_nodes(child)


def yields(function):
    return any(isinstance(node, (ast.Yield, ast.YieldFrom)) for node in own_nodes(function))


def decorated(function, name):
    return any(getattr(mark, "id", getattr(mark, "attr", "")) == name for mark in function.decorator_list)


def attributes_assigned():
    """Returns the names of all attributes that are assigned anywhere."""
    nodes = [node for _, tree in trees() for node in ast.walk(tree)]
    return {node.attr for node in nodes if isinstance(node, ast.Attribute) and isinstance(node.ctx, ast.Store)}


class Files(unittest.TestCase):

    def test_names(self):
        for path in files():
            self.assertRegex(path.name, r"^([a-z][a-z0-9_]*|__init__|__main__)\.py$")
            self.assertTrue((path.parent / "__init__.py").is_file(), path)

    def test_sizes(self):
        for path in files():
            lines = path.read_text().split("\n")
            self.assertLess(len(lines), 400, path)
            self.assertLessEqual(max(len(line) for line in lines), 120, path)

    def test_characters(self):
        for path in files():
            self.assertEqual(re.findall(r"[^ -~\n]", path.read_text()), [], path)

    def test_functions_are_small(self):
        for path, tree in trees():
            for node in ast.walk(tree):
                if isinstance(node, ast.FunctionDef):
                    self.assertLessEqual(node.end_lineno - node.lineno + 1, 40, (path, node.name))


class Code(unittest.TestCase):

    def test_words(self):
        for path, tree in trees():
            names = bound_names(tree) | {node.id for node in ast.walk(tree) if isinstance(node, ast.Name)}
            names |= {node.attr for node in ast.walk(tree) if isinstance(node, ast.Attribute)}
            self.assertEqual(sorted(names & set(WORDS)), [], path)

    def test_statements(self):
        for path, tree in trees():
            for node in ast.walk(tree):
                self.assertNotIsInstance(node, NOT_USED, (path, getattr(node, "lineno", 0)))
                if isinstance(node, ast.Constant):
                    self.assertIsInstance(node.value, (int, str, bool, type(None)), path)

    def test_nothing_is_annotated(self):
        for path, tree in trees():
            for node in ast.walk(tree):
                if isinstance(node, ast.FunctionDef):
                    self.assertIsNone(node.returns, (path, node.name))
                if isinstance(node, ast.arg):
                    self.assertIsNone(node.annotation, (path, node.arg))

    def test_is_stands_beside_constants(self):
        for path, tree in trees():
            for node in ast.walk(tree):
                if isinstance(node, ast.Compare) and isinstance(node.ops[0], (ast.Is, ast.IsNot)):
                    self.assertIsInstance(node.comparators[0], ast.Constant, (path, node.lineno))
                    self.assertIn(node.comparators[0].value, (None, True, False))

    def test_builtins(self):
        for path, tree in trees():
            bound = bound_names(tree)
            self.assertEqual(sorted(bound & BUILTINS), [], path)
            for node in ast.walk(tree):
                if isinstance(node, ast.Name) and node.id not in bound:
                    self.assertIn(node.id, BUILTINS | set(DECORATORS), (path, node.lineno))

    def test_methods(self):
        own = {node.name for _, tree in trees() for node in ast.walk(tree) if isinstance(node, ast.FunctionDef)}
        for path, tree in trees():
            for node in ast.walk(tree):
                if isinstance(node, ast.Call) and isinstance(node.func, ast.Attribute):
                    self.assertIn(node.func.attr, METHODS | own, (path, node.lineno))

    def test_decorators(self):
        for path, tree in trees():
            for node in ast.walk(tree):
                for decorator in getattr(node, "decorator_list", []):
                    self.assertIn(getattr(decorator, "id", getattr(decorator, "attr", "")), DECORATORS, path)


class Names(unittest.TestCase):

    def test_no_name_has_two_meanings(self):
        for path, tree in trees():
            above = [node.name for node in tree.body if isinstance(node, (ast.FunctionDef, ast.ClassDef))]
            above += [node.targets[0].id for node in tree.body if isinstance(node, ast.Assign)]
            imported = [part.name for node in tree.body if isinstance(node, ast.ImportFrom) for part in node.names]
            self.assertEqual(len(above + imported), len(set(above + imported)), path)
            for function in functions(tree):
                names = {node.arg for node in ast.walk(function) if isinstance(node, ast.arg)}
                names |= {node.id for node in ast.walk(function)
                          if isinstance(node, ast.Name) and isinstance(node.ctx, ast.Store)}
                self.assertEqual(sorted(names & set(above + imported)), [], (path, function.name))

    def test_no_name_of_a_builtin(self):
        for path, tree in trees():
            self.assertEqual(sorted((bound_names(tree) - {"_"}) & set(dir(builtins))), [], path)

    def test_beginnings(self):
        for path, tree in trees():
            for name in bound_names(tree):
                self.assertNotRegex(name, "^_(wall|pe_|dcw_|enum_|cm_|twin_re_|lay_|law_|stub_|sre|cold|outside|record)")

    def test_generators(self):
        every = [function for _, tree in trees() for function in functions(tree)]
        names = [function.name for function in every]
        for function in every:
            if yields(function):
                self.assertEqual(names.count(function.name), 1, function.name)
                self.assertNotIn(function.name, METHODS)
                self.assertFalse(decorated(function, "property"), function.name)

    def test_properties_and_class_methods(self):
        every = [function for _, tree in trees() for function in functions(tree)]
        for kind in ("property", "classmethod", "staticmethod"):
            marked = {function.name for function in every if decorated(function, kind)}
            plain = {function.name for function in every
                     if not decorated(function, kind) and not decorated(function, "setter")}
            self.assertEqual(sorted(marked & (plain | METHODS | attributes_assigned())), [], kind)

    def test_methods_and_attributes(self):
        methods = {function.name for _, tree in trees() for node in ast.walk(tree) if isinstance(node, ast.ClassDef)
                   for function in node.body if isinstance(function, ast.FunctionDef)}
        properties = {function.name for _, tree in trees() for function in functions(tree)
                      if decorated(function, "setter")}
        self.assertEqual(sorted((methods - properties) & attributes_assigned()), [])

    def test_each_function_is_used(self):
        text = "".join(path.read_text() for path in files())
        for path, tree in trees():
            for node in tree.body:
                if isinstance(node, ast.FunctionDef) and node.name.startswith("_"):
                    self.assertGreater(len(re.findall(r"\b" + node.name + r"\b", path.read_text())), 1, node.name)
                elif isinstance(node, ast.FunctionDef):
                    many = len(re.findall(r"\b" + node.name + r"\b", text))
                    self.assertTrue(many > 1 or node.name in self.interface(), (path, node.name))

    def interface(self):
        return re.findall("[a-z_]+", (ROOT / "tests" / "test_interface.py").read_text())


class Calls(unittest.TestCase):

    def test_iterated_at_once(self):
        generators = {function.name for _, tree in trees() for function in functions(tree) if yields(function)}
        for path, tree in trees():
            above = parents(tree)
            for node in ast.walk(tree):
                name = called_name(node)
                if name in PASSING or name in generators or name in ("items", "keys", "values"):
                    outer = above[node]
                    if called_name(outer) in ("reversed", "len") and name == "range":
                        continue
                    self.assertTrue(is_iterated_at_once(node, outer), (path, node.lineno, name))

    def test_sets(self):
        for path, tree in trees():
            above = parents(tree)
            for node in ast.walk(tree):
                self.assertNotIsInstance(node, (ast.Set, ast.SetComp), path)
                if called_name(node) == "set":
                    self.assertIn(called_name(above[node]), ("sorted", "len"), (path, node.lineno))

    def test_keywords(self):
        for path, tree in trees():
            for node in ast.walk(tree):
                if isinstance(node, ast.Call) and isinstance(node.func, ast.Name) and node.func.id in BUILTINS:
                    known = {"sorted": ["key", "reverse"], "min": ["key", "default"], "max": ["key", "default"],
                             "sum": ["start"], "enumerate": ["start"], "zip": ["strict"]}.get(node.func.id, [])
                    self.assertTrue(all(part.arg in known for part in node.keywords), (path, node.lineno))
                if isinstance(node, ast.Call) and isinstance(node.func, ast.Attribute):
                    self.assertEqual(node.keywords if node.func.attr in METHODS else [], [], (path, node.lineno))

    def test_what_a_loop_goes_over_is_not_changed(self):
        for path, tree in trees():
            for loop in ast.walk(tree):
                if isinstance(loop, ast.For):
                    over = {ast.dump(node) for node in ast.walk(loop.iter) if isinstance(node, (ast.Name, ast.Attribute))}
                    for line in loop.body:
                        for node in ast.walk(line):
                            self.assertNotIn(self.changed(node), over, (path, loop.lineno))

    def changed(self, node):
        """Returns what a call of a method, an assignment of an item or a `del` changes, as it stands after `in`."""
        changing = ("append", "clear", "extend", "insert", "pop", "remove", "reverse", "setdefault", "update")
        if isinstance(node, ast.Call) and isinstance(node.func, ast.Attribute) and node.func.attr in changing:
            return ast.dump(node.func.value)
        if isinstance(node, ast.Subscript) and not isinstance(node.ctx, ast.Load):
            return ast.dump(node.value)
        return None

    def test_module_level(self):
        for path, tree in trees():
            kinds = (ast.ImportFrom, ast.FunctionDef, ast.ClassDef, ast.Assign)
            self.assertIsInstance(tree.body[0], ast.Expr, path)
            self.assertTrue(all(isinstance(node, kinds) for node in tree.body[1:]), path)
            for function in functions(tree):
                for default in function.args.defaults + [d for d in function.args.kw_defaults if d is not None]:
                    self.assertIsInstance(default, (ast.Constant, ast.Name), path)

    def test_strings(self):
        for path, tree in trees():
            for node in ast.walk(tree):
                if isinstance(node, ast.Constant) and isinstance(node.value, str):
                    self.assertNotIn("%", node.value, path)
                self.assertNotIsInstance(node, ast.Starred, path)
                if isinstance(node, ast.Call):
                    self.assertFalse([part for part in node.keywords if part.arg is None], (path, node.lineno))


class Imports(unittest.TestCase):

    def imports(self):
        for path, tree in trees():
            for node in ast.walk(tree):
                if isinstance(node, ast.ImportFrom):
                    yield path, node

    def test_names_the_file_that_defines_it(self):
        for path, node in self.imports():
            self.assertEqual(node.level, 0, path)
            if node.module in LIBRARY:
                self.assertEqual([a.name for a in node.names if a.name not in LIBRARY[node.module]], [], path)
                continue
            target = ROOT / (node.module.replace(".", "/") + ".py")
            self.assertTrue(target.is_file(), (path, node.module))
            body = ast.parse(target.read_text()).body
            there = {part.name for part in body if isinstance(part, (ast.FunctionDef, ast.ClassDef))}
            there |= {part.targets[0].id for part in body if isinstance(part, ast.Assign)}
            self.assertEqual([a.name for a in node.names if a.name not in there or a.asname], [], path)

    def test_each_imported_name_is_used(self):
        for path, tree in trees():
            used = {node.id for node in ast.walk(tree) if isinstance(node, ast.Name)}
            imported = {a.name for node in ast.walk(tree) if isinstance(node, ast.ImportFrom) for a in node.names}
            self.assertEqual(sorted(imported - used), [], path)

    def test_no_two_files_import_from_each_other(self):
        leads = {}
        for path, node in self.imports():
            name = ".".join(path.relative_to(ROOT).with_suffix("").parts)
            leads.setdefault(name, set()).add(node.module)
        for begin in leads:
            reached, waiting = set(), [begin]
            while waiting:
                for module in leads.get(waiting.pop(), ()):
                    if module not in reached:
                        reached.add(module)
                        waiting.append(module)
            self.assertNotIn(begin, reached)


if __name__ == "__main__":
    unittest.main()
