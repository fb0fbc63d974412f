"""Checks the rules of the language that are easy to break without noticing."""

import ast
import builtins
import pathlib
import re
import unittest

PACKAGE = pathlib.Path(__file__).resolve().parent.parent / "overlapcode"
FILES = sorted(path for path in PACKAGE.rglob("*") if "__pycache__" not in path.parts)

BUILTINS = set(
    "len range enumerate zip min max sum abs sorted reversed int str bool bytes list tuple dict set frozenset "
    "isinstance ord repr any all divmod iter next Exception ValueError TypeError KeyError IndexError LookupError "
    "ZeroDivisionError ArithmeticError OverflowError RuntimeError NotImplementedError AttributeError StopIteration "
    "NotImplemented super property staticmethod classmethod".split()
)
VALUE_METHODS = set(
    "append clear copy count endswith extend find get index insert isalnum isalpha isdigit islower isspace isupper "
    "items join keys ljust lower lstrip partition pop remove replace reverse rfind rjust rpartition rsplit rstrip "
    "setdefault split splitlines startswith strip update upper values zfill bit_length".split()
)
WORDS = (
    "type|typing|typing_extensions|enum|Enum|IntEnum|StrEnum|Flag|IntFlag|Generic|Protocol|ABC|ABCMeta|namedtuple|"
    "NamedTuple|TypedDict|TYPE_CHECKING|abstractmethod"
)


def trees():
    return [(path.name, ast.parse(path.read_text())) for path in FILES]


def nodes(*kinds):
    return [(name, node) for name, tree in trees() for node in ast.walk(tree) if isinstance(node, kinds)]


def bound_names():
    """Every name that the package gives to something, with its file."""
    rows = [(name, node.id) for name, node in nodes(ast.Name) if isinstance(node.ctx, ast.Store)]
    rows += [(name, node.arg) for name, node in nodes(ast.arg)]
    rows += [(name, node.name) for name, node in nodes(ast.FunctionDef, ast.ClassDef)]
    return rows


class TestLanguage(unittest.TestCase):
    def test_files(self):
        self.assertIn("__init__.py", [path.name for path in FILES])
        for path in FILES:
            self.assertRegex(path.name, "^[a-z0-9_]+[.]py$")

    def test_imports(self):
        for name, node in nodes(ast.Import):
            self.assertEqual([alias.name for alias in node.names], ["sys"], name)
            self.assertEqual(name, "__main__.py")
        for name, node in nodes(ast.ImportFrom):
            self.assertEqual(node.level, 0, name)
            self.assertTrue(node.module.startswith("overlapcode."), (name, node.module))
            self.assertNotIn("*", [alias.name for alias in node.names], name)

    def test_size(self):
        for path in FILES:
            lines = path.read_text().splitlines()
            self.assertLessEqual(len(lines), 400, path.name)
            self.assertLessEqual(max(map(len, lines), default=0), 120, path.name)
        for name, node in nodes(ast.FunctionDef):
            self.assertLessEqual(node.end_lineno - node.lineno + 1, 40, (name, node.name))

    def test_characters(self):
        for path in FILES:
            self.assertIsNone(re.search(rb"[^ -~\n]", path.read_bytes()), path.name)

    def test_words(self):
        for path in FILES:
            text = path.read_text()
            self.assertIsNone(re.search(rf"\b({WORDS})\b|dataclass|overload|contextmanager", text), path.name)

    def test_names(self):
        allowed = {"__init__", "__eq__", "__repr__", "__str__", "__len__", "__iter__", "__slots__"}
        for name, bound in bound_names():
            if bound not in allowed:
                self.assertRegex(bound, "^[A-Za-z][A-Za-z0-9_]*$", name)

    def test_no_builtin_is_given_another_meaning(self):
        methods = {id(item) for name, node in nodes(ast.ClassDef) for item in node.body}
        rows = [(name, node.name) for name, node in nodes(ast.FunctionDef, ast.ClassDef) if id(node) not in methods]
        rows += [(name, node.id) for name, node in nodes(ast.Name) if isinstance(node.ctx, ast.Store)]
        rows += [(name, node.arg) for name, node in nodes(ast.arg)]
        for name, bound in rows:
            self.assertFalse(hasattr(builtins, bound) and not bound.startswith("__"), (name, bound))

    def test_builtins(self):
        for name, node in nodes(ast.Name):
            if hasattr(builtins, node.id):
                self.assertIn(node.id, BUILTINS, (name, node.lineno))

    def test_no_floats_and_no_percent_signs_in_strings(self):
        for name, node in nodes(ast.Constant):
            self.assertNotIsInstance(node.value, (float, complex), name)
            self.assertFalse(isinstance(node.value, str) and "%" in node.value, (name, node.lineno))
        self.assertEqual(nodes(ast.Div, ast.Global, ast.AsyncFunctionDef, ast.Await), [])

    def test_generator_expressions_stand_beside_no_equality(self):
        # With an own __eq__ in the package these builtins take lists.
        for name, node in nodes(ast.Call):
            if isinstance(node.func, ast.Name) and node.func.id in ("any", "all", "min", "max", "sum", "sorted"):
                self.assertFalse(any(isinstance(part, ast.GeneratorExp) for part in node.args), (name, node.lineno))

    def test_no_method_is_an_attribute_elsewhere(self):
        methods = {item.name for name, node in nodes(ast.ClassDef) for item in node.body
                   if isinstance(item, ast.FunctionDef)}
        stored = {node.attr for name, node in nodes(ast.Attribute) if isinstance(node.ctx, ast.Store)}
        self.assertEqual(methods & stored, set())

    def test_no_local_name_is_an_import_or_a_class(self):
        for name, tree in trees():
            taken = {alias.name for node in ast.walk(tree) if isinstance(node, ast.ImportFrom) for alias in node.names}
            taken |= {node.name for node in ast.walk(tree) if isinstance(node, ast.ClassDef)}
            names = [node for node in ast.walk(tree) if isinstance(node, ast.Name)]
            bound = {node.id for node in names if isinstance(node.ctx, ast.Store)}
            bound |= {node.arg for node in ast.walk(tree) if isinstance(node, ast.arg)}
            self.assertEqual(taken & bound, set(), name)

    def test_methods_of_builtin_values(self):
        own = {item.name for name, node in nodes(ast.ClassDef) for item in node.body
               if isinstance(item, ast.FunctionDef)}
        for name, node in nodes(ast.Call):
            if isinstance(node.func, ast.Attribute):
                self.assertIn(node.func.attr, own | VALUE_METHODS, (name, node.lineno))
                if node.func.attr in VALUE_METHODS:
                    self.assertEqual(node.keywords, [], (name, node.lineno))

    def test_attributes_that_are_read_are_assigned(self):
        methods = {item.name for name, node in nodes(ast.ClassDef) for item in node.body
                   if isinstance(item, ast.FunctionDef)}
        stored = {node.attr for name, node in nodes(ast.Attribute) if isinstance(node.ctx, ast.Store)}
        for name, node in nodes(ast.Attribute):
            self.assertIn(node.attr, methods | stored | VALUE_METHODS, (name, node.lineno))

    def test_imports_name_the_defining_file_and_go_in_no_circle(self):
        defined = {}
        needed = {}
        for name, tree in trees():
            rows = {node.name for node in tree.body if isinstance(node, (ast.FunctionDef, ast.ClassDef))}
            rows |= {target.id for node in tree.body if isinstance(node, ast.Assign) for target in node.targets}
            module = "overlapcode." + name.removesuffix(".py")
            defined[module] = rows
            needed[module] = [node.module for node in tree.body if isinstance(node, ast.ImportFrom)]
        for name, node in nodes(ast.ImportFrom):
            self.assertLessEqual({alias.name for alias in node.names}, defined[node.module], name)
        left = set(needed)
        while left:
            free = {module for module in left if not left & set(needed[module])}
            self.assertTrue(free, left)
            left -= free

    def test_is_stands_beside_none_true_and_false(self):
        for name, node in nodes(ast.Compare):
            for sign, right in zip(node.ops, node.comparators):
                if isinstance(sign, (ast.Is, ast.IsNot)):
                    constant = isinstance(right, ast.Constant) and right.value in (None, True, False)
                    self.assertTrue(constant, (name, node.lineno))


if __name__ == "__main__":
    unittest.main()
