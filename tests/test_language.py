"""The rules of LANGUAGE.md that can be read off the files of the package without a doubt."""

import ast
import builtins
import re
import unittest
from pathlib import Path

PACKAGE = Path(__file__).resolve().parent.parent / "payorder"
FILES = sorted(PACKAGE.glob("*.py"))

BARRED_WORDS = (
    "type typing typing_extensions enum Enum IntEnum StrEnum Flag IntFlag Generic Protocol ABC ABCMeta namedtuple "
    "NamedTuple TypedDict TYPE_CHECKING abstractmethod"
).split()
BARRED_PARTS = ("dataclass", "overload", "contextmanager")

BUILTINS = (
    "len range enumerate zip min max sum abs sorted reversed int str bool bytes list tuple dict set frozenset "
    "isinstance ord repr any all divmod iter next super property staticmethod classmethod Exception ValueError "
    "TypeError KeyError IndexError LookupError ZeroDivisionError ArithmeticError OverflowError RuntimeError "
    "NotImplementedError AttributeError StopIteration NotImplemented"
).split()

BARRED_NODES = (
    ast.Global, ast.AsyncFunctionDef, ast.AsyncFor, ast.AsyncWith, ast.Await, ast.Import, ast.Div, ast.MatMult,
)

METHODS = (
    "append clear copy count endswith extend find get index insert isalnum isalpha isdigit islower isspace isupper "
    "items join keys ljust lower lstrip partition pop remove replace reverse rfind rjust rpartition rsplit rstrip "
    "setdefault split splitlines startswith strip update upper values zfill bit_length isascii"
).split()

# L23: these are iterated where they stand.
PASSING = ("range", "zip", "enumerate", "reversed")
ITERATING = ("list", "tuple", "dict", "sorted", "sum", "any", "all", "enumerate", "zip", "min", "max")

SPECIAL_METHODS = re.compile(r"__(init|eq|repr|str|len|enter|exit|call|iter)__")


def trees():
    return [(path, ast.parse(path.read_text(encoding="utf-8"))) for path in FILES]


def defined_names(tree):
    """The names that a file binds itself at module level."""
    names = [node.name for node in tree.body if isinstance(node, (ast.FunctionDef, ast.ClassDef))]
    for node in tree.body:
        if isinstance(node, ast.Assign):
            names.extend([target.id for target in node.targets])
    return names


def bound_names(tree):
    """All names that a file binds anywhere, except attributes."""
    names = []
    for node in ast.walk(tree):
        if isinstance(node, (ast.FunctionDef, ast.ClassDef)):
            names.append(node.name)
        elif isinstance(node, ast.arg):
            names.append(node.arg)
        elif isinstance(node, ast.Name) and isinstance(node.ctx, ast.Store):
            names.append(node.id)
    return names


def called_name(node):
    return node.func.id if isinstance(node, ast.Call) and isinstance(node.func, ast.Name) else None


def iterated(tree):
    """The expressions that a loop, a comprehension or a builtin iterates on the spot, or that are tested with in."""
    found = []
    for node in ast.walk(tree):
        if isinstance(node, (ast.For, ast.comprehension)):
            found.append(node.iter)
        elif called_name(node) in ITERATING:
            found.extend(node.args)
        elif isinstance(node, ast.Compare):
            found.extend([side for sign, side in zip(node.ops, node.comparators) if isinstance(sign, (ast.In, ast.NotIn))])
    return found


def classes():
    return [node for path, tree in trees() for node in tree.body if isinstance(node, ast.ClassDef)]


def error_class(found):
    return [base.id for base in found.bases] in (["OrderError"], ["ValueError"])


def methods_of(found):
    return [node for node in found.body if isinstance(node, ast.FunctionDef)]


def stored_attributes(found):
    return [node.attr for node in ast.walk(found) if isinstance(node, ast.Attribute) and isinstance(node.ctx, ast.Store)]


class TestFiles(unittest.TestCase):
    def test_the_folder_holds_only_plain_files(self):
        found = [path for path in PACKAGE.iterdir() if path.name != "__pycache__"]
        self.assertEqual(sorted(found), FILES)
        self.assertIn(PACKAGE / "__init__.py", FILES)
        for path in FILES:
            self.assertRegex(path.name, r"^(__init__|__main__|[a-z][a-z0-9_]*)\.py$")

    def test_size(self):
        for path, tree in trees():
            lines = path.read_text(encoding="utf-8").split("\n")
            self.assertLessEqual(len(lines), 399, path)
            self.assertLessEqual(max([len(line) for line in lines]), 120, path)
            for node in ast.walk(tree):
                if isinstance(node, ast.FunctionDef):
                    self.assertLessEqual(node.end_lineno - node.lineno + 1, 40, node.name)

    def test_characters(self):
        for path in FILES:
            for letter in path.read_text(encoding="utf-8"):
                self.assertTrue(letter == "\n" or " " <= letter <= "~", (path, letter))

    def test_barred_words(self):
        for path in FILES:
            text = path.read_text(encoding="utf-8")
            for word in BARRED_WORDS:
                self.assertIsNone(re.search(rf"\b{word}\b", text), (path, word))
            for part in BARRED_PARTS:
                self.assertNotIn(part, text, path)


class TestCode(unittest.TestCase):
    def test_imports(self):
        defined = {f"payorder.{path.stem}": defined_names(tree) for path, tree in trees()}
        for path, tree in trees():
            for node in ast.walk(tree):
                if isinstance(node, ast.ImportFrom):
                    self.assertIn(node, tree.body, path)
                    for alias in node.names:
                        self.assertIn(alias.name, defined.get(node.module, ()), path)

    def test_imports_do_not_go_in_circles(self):
        wanted = {}
        for path, tree in trees():
            wanted[f"payorder.{path.stem}"] = [node.module for node in tree.body if isinstance(node, ast.ImportFrom)]
        while wanted:
            ready = [name for name, needs in wanted.items() if not [need for need in needs if need in wanted]]
            self.assertTrue(ready, wanted)
            wanted = {name: needs for name, needs in wanted.items() if name not in ready}

    def test_module_level(self):
        allowed = (ast.ImportFrom, ast.FunctionDef, ast.ClassDef, ast.Assign)
        for path, tree in trees():
            self.assertIsNotNone(ast.get_docstring(tree), path)
            for node in tree.body[1:]:
                self.assertIsInstance(node, allowed, path)

    def test_names(self):
        for path, tree in trees():
            for name in bound_names(tree):
                if SPECIAL_METHODS.fullmatch(name) is None:
                    self.assertFalse(name.startswith("_"), (path, name))
                    self.assertNotIn(name, dir(builtins), path)

    def test_each_name_is_bound_once(self):
        for path, tree in trees():
            names = defined_names(tree)
            for node in tree.body:
                if isinstance(node, ast.ImportFrom):
                    names.extend([alias.asname or alias.name for alias in node.names])
            self.assertEqual(len(names), len(set(names)), path)

    def test_builtins(self):
        for path, tree in trees():
            for node in ast.walk(tree):
                if isinstance(node, ast.Name) and node.id in dir(builtins):
                    self.assertIn(node.id, BUILTINS, path)

    def test_barred_code(self):
        for path, tree in trees():
            for node in ast.walk(tree):
                self.assertNotIsInstance(node, BARRED_NODES, path)
                if isinstance(node, ast.Constant):
                    self.assertNotIsInstance(node.value, (float, complex), path)
                    self.assertFalse(isinstance(node.value, str) and "%" in node.value, path)
                if isinstance(node, ast.Attribute) and node.attr.startswith("__"):
                    self.assertEqual(node.attr, "__init__", path)

    def test_iterated_at_once(self):
        for path, tree in trees():
            places = iterated(tree)
            for node in ast.walk(tree):
                if called_name(node) in PASSING:
                    self.assertIn(node, places, (path, node.lineno))

    def test_lists_instead_of_generators(self):
        # L7 allows generator expressions only while no class has an __eq__; lists are always allowed.
        for path, tree in trees():
            for node in ast.walk(tree):
                self.assertNotIsInstance(node, (ast.GeneratorExp, ast.Yield, ast.YieldFrom), path)

    def test_is_only_with_constants(self):
        for path, tree in trees():
            for node in ast.walk(tree):
                if isinstance(node, ast.Compare) and [sign for sign in node.ops if isinstance(sign, (ast.Is, ast.IsNot))]:
                    for side in node.comparators:
                        self.assertTrue(isinstance(side, ast.Constant) and side.value in (None, True, False), path)

    def test_methods_of_builtin_values(self):
        own = [method.name for found in classes() for method in methods_of(found)]
        for path, tree in trees():
            for node in ast.walk(tree):
                if isinstance(node, ast.Call) and isinstance(node.func, ast.Attribute):
                    self.assertIn(node.func.attr, METHODS + own, (path, node.lineno))

    def test_functions_of_a_table_are_called_by_a_name(self):
        for path, tree in trees():
            for node in ast.walk(tree):
                if isinstance(node, ast.Call):
                    self.assertIsInstance(node.func, (ast.Name, ast.Attribute), (path, node.lineno))

    def test_values_at_module_level(self):
        for path, tree in trees():
            for node in tree.body:
                if isinstance(node, ast.Assign):
                    self.assertEqual([type(target) for target in node.targets], [ast.Name], path)
                    for part in ast.walk(node.value):
                        self.assertNotIsInstance(part, (ast.Call, ast.ListComp, ast.Set, ast.Lambda, ast.Attribute), path)

    def test_defaults_are_plain(self):
        for path, tree in trees():
            for node in ast.walk(tree):
                if isinstance(node, ast.arguments):
                    for default in [*node.defaults, *node.kw_defaults]:
                        self.assertIsInstance(default, (ast.Constant, ast.Name), path)
                    self.assertEqual((node.posonlyargs, node.vararg, node.kwarg), ([], None, None), path)

    def test_sets_are_sorted_or_counted_on_the_spot(self):
        for path, tree in trees():
            places = [argument for node in ast.walk(tree) if called_name(node) in ("sorted", "len") for argument in node.args]
            for node in ast.walk(tree):
                self.assertNotIsInstance(node, (ast.Set, ast.SetComp), path)
                if called_name(node) == "set":
                    self.assertIn(node, places, (path, node.lineno))

    def test_own_errors_alone_are_caught(self):
        own = [found.name for found in classes() if error_class(found)]
        for path, tree in trees():
            for node in ast.walk(tree):
                if isinstance(node, ast.ExceptHandler):
                    self.assertIn(node.type.id, own, (path, node.lineno))
                    for use in ast.walk(node):
                        if isinstance(use, ast.Raise) and use.exc is not None:
                            self.assertIn(called_name(use.exc), own, (path, use.lineno))

    def test_no_name_hides_an_import_or_a_class(self):
        for path, tree in trees():
            taken = [alias.asname or alias.name for node in tree.body if isinstance(node, ast.ImportFrom)
                     for alias in node.names]
            taken.extend([node.name for node in tree.body if isinstance(node, ast.ClassDef)])
            for node in ast.walk(tree):
                if isinstance(node, ast.arg):
                    self.assertNotIn(node.arg, taken, path)
                elif isinstance(node, ast.Name) and isinstance(node.ctx, ast.Store):
                    self.assertNotIn(node.id, taken, path)


class TestClasses(unittest.TestCase):
    def test_bodies(self):
        for found in classes():
            self.assertEqual(found.decorator_list, [], found.name)
            self.assertIsNotNone(ast.get_docstring(found), found.name)
            for node in found.body[1:]:
                self.assertIsInstance(node, ast.FunctionDef, found.name)
                self.assertEqual(node.decorator_list, [], found.name)
            names = [method.name for method in methods_of(found)]
            self.assertEqual(len(names), len(set(names)), found.name)

    def test_no_name_is_a_method_and_an_attribute(self):
        methods = {method.name for found in classes() for method in methods_of(found)}
        attributes = {name for found in classes() for name in stored_attributes(found)}
        self.assertEqual(methods & attributes, set())

    def test_attributes_that_are_read_are_assigned(self):
        known = {method.name for found in classes() for method in methods_of(found)} | set(METHODS)
        known.update([name for found in classes() for name in stored_attributes(found)])
        for path, tree in trees():
            for node in ast.walk(tree):
                if isinstance(node, ast.Attribute):
                    self.assertIn(node.attr, known, (path, node.lineno))

    def test_methods_with_two_underscores(self):
        for found in classes():
            for method in methods_of(found):
                if method.name in ("__eq__", "__str__", "__len__", "__repr__"):
                    rows = [row for row in method.body if not isinstance(row, ast.Expr)]
                    self.assertEqual([type(row) for row in rows], [ast.Return], found.name)
                if method.name == "__str__":
                    self.assertIsInstance(method.body[-1].value, (ast.Constant, ast.JoinedStr), found.name)
                if method.name == "__len__":
                    self.assertEqual(called_name(method.body[-1].value), "len", found.name)

    def test_super_calls_a_method_of_the_same_name(self):
        for found in classes():
            for method in methods_of(found):
                calls = [node for node in ast.walk(method) if called_name(node) == "super"]
                used = [node.func for node in ast.walk(method)
                        if isinstance(node, ast.Call) and isinstance(node.func, ast.Attribute)
                        and called_name(node.func.value) == "super"]
                self.assertEqual([call.attr for call in used], [method.name] * len(calls), (found.name, method.name))
                if method.name.startswith("__") and method.name != "__init__":
                    self.assertEqual(calls, [], (found.name, method.name))

    def test_classes_are_not_passed_on(self):
        names = [found.name for found in classes()]
        for path, tree in trees():
            allowed = []
            for node in ast.walk(tree):
                if isinstance(node, ast.Call):
                    allowed.append(node.func)
                    if called_name(node) == "isinstance":
                        allowed.append(node.args[1])
                elif isinstance(node, ast.ClassDef):
                    allowed.extend(node.bases)
                elif isinstance(node, ast.ExceptHandler):
                    allowed.append(node.type)
            for node in ast.walk(tree):
                if isinstance(node, ast.Name) and node.id in names:
                    self.assertIn(node, allowed, (path, node.lineno))


if __name__ == "__main__":
    unittest.main()
