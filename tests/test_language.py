"""Those rules of LANGUAGE.md that can be seen in the files of the package without running it."""

import ast
import builtins
import re
import sys
import unittest
from pathlib import Path

PACKAGE = Path(__file__).resolve().parent.parent / "toothchain"
ALLOWED_BUILTINS = set(
    "len range enumerate zip min max sum abs sorted reversed int str bool bytes list tuple dict set frozenset"
    " isinstance ord repr any all divmod map iter next super property staticmethod classmethod Exception ValueError"
    " TypeError KeyError IndexError LookupError ZeroDivisionError ArithmeticError OverflowError RuntimeError"
    " NotImplementedError AttributeError StopIteration NotImplemented True False None".split()
)
LIBRARY = {
    "heapq": {"heappush", "heappop", "heapify", "heapreplace", "heappushpop"},
    "math": {"gcd", "lcm", "isqrt", "comb", "perm", "factorial"},
    "itertools": {"product", "combinations", "permutations"},
}
BARRED_NAMES = set(
    "register mro elements open input law version_info with_traceback add_note attrgetter breakpoint builtins compile"
    " copyright credits delattr dir eval exec exit gc getattr globals hasattr help id importlib license locals"
    " methodcaller os quit setattr type vars sys".split()
)
BARRED_NODES = (
    ast.Global, ast.AsyncFunctionDef, ast.AsyncFor, ast.AsyncWith, ast.Await, ast.Div, ast.MatMult, ast.Import,
)
BARRED_WORDS = set(
    "type typing typing_extensions enum Enum IntEnum StrEnum Flag IntFlag Generic Protocol ABC ABCMeta namedtuple"
    " NamedTuple TypedDict TYPE_CHECKING abstractmethod dataclass overload contextmanager".split()
)
PLAIN_NAME = re.compile(r"_?[A-Za-z][A-Za-z0-9_]*|_|__[a-z]+__")


def files():
    return sorted(path for path in PACKAGE.rglob("*") if path.is_file() and "__pycache__" not in path.parts)


def trees():
    for path in files():
        yield path, ast.parse(path.read_text(encoding="ascii"))


def nodes(*kinds):
    for path, tree in trees():
        for node in ast.walk(tree):
            if isinstance(node, kinds):
                yield f"{path.name}:{getattr(node, 'lineno', 0)}", node


def names_in(node):
    if isinstance(node, ast.Name):
        return [node.id]
    if isinstance(node, ast.Attribute):
        return [node.attr]
    if isinstance(node, ast.arg):
        return [node.arg]
    if isinstance(node, (ast.FunctionDef, ast.ClassDef)):
        return [node.name]
    return []


def exponents(tree):
    """The right sides of all powers, also of those that are assigned at once."""
    for node in ast.walk(tree):
        if isinstance(node, ast.BinOp) and isinstance(node.op, ast.Pow):
            yield node.right
        if isinstance(node, ast.AugAssign) and isinstance(node.op, ast.Pow):
            yield node.value


def is_written_exponent(node):
    """L27: a literal integer from 0 to 64."""
    return isinstance(node, ast.Constant) and type(node.value) is int and 0 <= node.value <= 64


def methods(tree):
    for node in ast.walk(tree):
        if isinstance(node, ast.ClassDef):
            yield from (one for one in node.body if isinstance(one, ast.FunctionDef))


def is_property(node):
    return bool(node.decorator_list)


def stored_attributes(tree):
    for node in ast.walk(tree):
        if isinstance(node, ast.Attribute) and isinstance(node.ctx, ast.Store):
            yield node.attr


class FileTests(unittest.TestCase):
    def test_files_and_folders(self):
        self.assertNotIn(PACKAGE.name, sys.stdlib_module_names)
        self.assertLessEqual(len(files()), 100)
        for path in files():
            self.assertRegex(path.name, r"\A([a-z][a-z0-9_]*|__init__|__main__)\.py\Z")
            self.assertNotIn(path.stem, vars(builtins))
            self.assertTrue((path.parent / "__init__.py").is_file(), path)
            self.assertFalse((path.parent / path.stem).exists(), path)

    def test_characters_and_sizes(self):
        for path in files():
            text = path.read_bytes().decode("ascii")
            self.assertTrue(all(" " <= one <= "~" or one == "\n" for one in text), path)
            lines = text.split("\n")
            self.assertLessEqual(len(lines), 399, path)
            self.assertLessEqual(max(map(len, lines)), 120, path)

    def test_functions_have_at_most_forty_lines(self):
        for place, node in nodes(ast.FunctionDef):
            self.assertLessEqual(node.end_lineno - node.lineno + 1, 40, place)

    def test_module_level(self):
        kinds = (ast.ImportFrom, ast.FunctionDef, ast.ClassDef, ast.Assign)
        for path, tree in trees():
            body = tree.body[1:] if ast.get_docstring(tree) is not None else tree.body
            for node in body:
                self.assertIsInstance(node, kinds, path)
                if isinstance(node, ast.Assign):
                    self.assertEqual([type(target) for target in node.targets], [ast.Name], path)

    def test_imports(self):
        for place, node in nodes(ast.ImportFrom):
            names = {alias.name for alias in node.names}
            self.assertEqual((node.level, [alias.asname for alias in node.names if alias.asname]), (0, []), place)
            if node.module in LIBRARY:
                self.assertLessEqual(names, LIBRARY[node.module], place)
            else:
                self.assertEqual(node.module.split(".")[0], "toothchain", place)
                self.assertLessEqual(names, self.defined_names(node.module), place)

    def defined_names(self, module):
        path = PACKAGE.parent.joinpath(*module.split(".")).with_suffix(".py")
        return {name for node in ast.parse(path.read_text()).body for name in self.bound_names(node)}

    def bound_names(self, node):
        targets = node.targets if isinstance(node, ast.Assign) else [node]
        return [] if isinstance(node, ast.ImportFrom) else [name for one in targets for name in names_in(one)]


class StatementTests(unittest.TestCase):
    def test_barred_kinds(self):
        self.assertEqual([place for place, _ in nodes(*BARRED_NODES)], [])

    def test_no_floats_and_no_percent_signs(self):
        for place, node in nodes(ast.Constant):
            self.assertNotIsInstance(node.value, (float, complex), place)
            self.assertFalse(isinstance(node.value, str) and "%" in node.value, place)

    def test_names(self):
        for place, node in nodes(ast.Name, ast.Attribute, ast.arg, ast.FunctionDef, ast.ClassDef):
            for name in names_in(node):
                self.assertRegex(name, rf"\A({PLAIN_NAME.pattern})\Z", place)
                self.assertNotIn(name, BARRED_NAMES, place)
                # An interactive Python keeps its last value among the builtins, as `_`.
                if isinstance(node, ast.Name) and name in vars(builtins) and name != "_":
                    self.assertIn(name, ALLOWED_BUILTINS, place)
                    self.assertIsInstance(node.ctx, ast.Load, place)

    def test_decorators(self):
        for place, node in nodes(ast.FunctionDef, ast.ClassDef):
            for one in node.decorator_list:
                self.assertIn(ast.unparse(one).split(".")[-1], ("property", "setter", "staticmethod", "classmethod"), place)

    def test_augmented_assignments_add_literals_only(self):
        for place, node in nodes(ast.AugAssign):
            self.assertIsInstance(node.value, ast.Constant, place)

    def test_identity_is_asked_of_singletons_only(self):
        for place, node in nodes(ast.Compare):
            for sign, side in zip(node.ops, node.comparators):
                if isinstance(sign, (ast.Is, ast.IsNot)):
                    self.assertIn(ast.unparse(side), ("None", "True", "False"), place)

    def test_any_and_the_like_take_lists(self):
        for place, _ in nodes(ast.GeneratorExp):
            self.fail(f"{place}: take a list, because classes of the package have __eq__")

    def test_exponents(self):
        for path, tree in trees():
            for exponent in exponents(tree):
                self.assertTrue(is_written_exponent(exponent), f"{path.name}:{exponent.lineno}")

    def test_exponents_that_the_rule_bars(self):
        for text in ("a ** n", "2 ** n", "self._top ** exponent", "2 ** 65", "2 ** -1", "2 ** True", "2 ** (1 + 1)",
                     "total = top ** n + 1", "n **= k", "one(2 ** len(rows))"):
            self.assertEqual([is_written_exponent(one) for one in exponents(ast.parse(text))], [False], text)
        for text in ("10 ** 60", "n ** 0", "(10 ** 50) ** 16", "n **= 2", "(a + b) ** 64"):
            self.assertTrue(all(is_written_exponent(one) for one in exponents(ast.parse(text))), text)
            self.assertTrue(list(exponents(ast.parse(text))), text)

    def test_texts_lengths_and_equality_assign_nothing(self):
        for path, tree in trees():
            for method in methods(tree):
                if method.name in ("__eq__", "__len__", "__str__", "__repr__"):
                    for node in ast.walk(method):
                        self.assertNotIsInstance(node, (ast.Assign, ast.AugAssign, ast.NamedExpr, ast.Delete), path)

    def test_raised_errors_are_made_on_the_spot(self):
        for place, node in nodes(ast.Raise):
            self.assertIsInstance(node.exc, ast.Call, place)


class NameTests(unittest.TestCase):
    def test_no_variable_has_the_name_of_an_import_or_a_class(self):
        for path, tree in trees():
            bound = {alias.name for node in tree.body if isinstance(node, ast.ImportFrom) for alias in node.names}
            bound |= {node.name for node in tree.body if isinstance(node, ast.ClassDef)}
            for node in ast.walk(tree):
                if isinstance(node, ast.arg) or isinstance(node, ast.Name) and isinstance(node.ctx, ast.Store):
                    self.assertNotIn(names_in(node)[0], bound, path)

    def test_names_are_bound_once_at_module_level(self):
        for path, tree in trees():
            bound = []
            for node in tree.body:
                if isinstance(node, ast.ImportFrom):
                    bound.extend(alias.name for alias in node.names)
                elif isinstance(node, ast.Assign):
                    bound.extend(names_in(node.targets[0]))
                else:
                    bound.extend(names_in(node))
            self.assertEqual(len(bound), len(set(bound)), path)

    def test_methods_properties_and_attributes_have_different_names(self):
        plain, read, stored = set(), set(), set()
        for _, tree in trees():
            plain |= {node.name for node in methods(tree) if not is_property(node)}
            read |= {node.name for node in methods(tree) if is_property(node)}
            stored |= set(stored_attributes(tree))
        self.assertEqual((plain & read, plain & stored), (set(), set()))

    def test_methods_and_attributes_have_no_names_of_builtin_values(self):
        # L25 and L26 leave the name of this method free, and the interface asks for it.
        barred = {name for kind in (str, int, list, dict, set, bytes) for name in vars(kind)} - {"remove"}
        for path, tree in trees():
            names = [node.name for node in methods(tree) if not node.name.startswith("__")]
            for name in [*names, *stored_attributes(tree)]:
                self.assertNotIn(name, barred, path)

    def test_barred_words(self):
        for place, node in nodes(ast.Name, ast.Attribute, ast.arg, ast.FunctionDef, ast.ClassDef):
            self.assertFalse(BARRED_WORDS & set(names_in(node)), place)
        for path in files():
            words = set(re.findall(r"\w+", path.read_text(encoding="ascii")))
            self.assertFalse({"_wall", "_WallAttr", "Meta", "metaclass"} & words, path)

    def test_library_functions_are_called_by_position(self):
        library = set().union(*LIBRARY.values())
        for place, node in nodes(ast.Call):
            if isinstance(node.func, ast.Name) and node.func.id in library:
                self.assertEqual(node.keywords, [], place)


if __name__ == "__main__":
    unittest.main()
