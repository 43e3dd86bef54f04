"""The form of the package's own files: those rules of LANGUAGE.md that can be seen in a file by itself."""

import ast
import builtins
import pathlib
import re
import unittest

PACKAGE = pathlib.Path(__file__).resolve().parent.parent / "grantweave"
FILES = sorted(PACKAGE.glob("*.py"))

NODES = """Module FunctionDef ClassDef Return Assign AugAssign For While If Raise Try Pass Break Continue Expr ImportFrom
alias arguments arg ExceptHandler BoolOp And Or BinOp UnaryOp Lambda IfExp Dict Set ListComp comprehension Compare
Call keyword JoinedStr FormattedValue Constant Attribute Subscript Name List Tuple Slice Load Store
Add Sub Mult FloorDiv Mod Pow LShift RShift BitOr BitXor BitAnd Invert Not UAdd USub
Eq NotEq Lt LtE Gt GtE Is IsNot In NotIn""".split()
OWN_NAMES = """len range enumerate zip min max sum abs sorted reversed int str bool list tuple dict set frozenset isinstance
ord repr any all divmod Exception ValueError TypeError KeyError IndexError LookupError ZeroDivisionError
ArithmeticError OverflowError RuntimeError NotImplementedError AttributeError StopIteration""".split()
DUNDERS = ["__init__", "__eq__", "__repr__", "__str__", "__len__"]
METHODS = """append clear copy count endswith extend find get index insert isalnum isalpha isdigit islower isspace isupper
items join keys ljust lower lstrip partition pop remove replace reverse rfind rjust rpartition rsplit rstrip setdefault
split splitlines startswith strip update upper values zfill bit_length""".split()
WORDS_OUT = """type typing typing_extensions enum Enum IntEnum StrEnum Flag IntFlag Generic Protocol ABC ABCMeta namedtuple
NamedTuple TypedDict TYPE_CHECKING abstractmethod""".split()
WALKED = ["zip", "enumerate", "reversed", "range", "items", "keys", "values"]
WALKERS = ["list", "tuple", "dict", "sorted", "sum", "any", "all", "enumerate", "zip", "min", "max", "join"]
NAMES_OUT = """register mro elements open input version_info with_traceback add_note format format_map attrgetter
breakpoint builtins compile copyright credits delattr dir eval exec exit gc getattr globals hasattr help id importlib
license locals methodcaller os quit setattr super vars sys""".split()
PYTHONS_METHODS = {name for kind in (str, int, list, tuple, dict, set, bytes) for name in dir(kind)}


def names_of(tree):
    for node in ast.walk(tree):
        if isinstance(node, ast.Name):
            yield node.id
        elif isinstance(node, ast.Attribute):
            yield node.attr
        elif isinstance(node, ast.arg):
            yield node.arg
        elif isinstance(node, (ast.FunctionDef, ast.ClassDef)):
            yield node.name
        elif isinstance(node, ast.alias):
            yield node.asname or node.name


def bound_names(tree):
    for node in ast.walk(tree):
        if isinstance(node, ast.Name) and isinstance(node.ctx, ast.Store):
            yield node.id
        elif isinstance(node, ast.arg):
            yield node.arg


def with_parents(tree):
    for parent in ast.walk(tree):
        for child in ast.iter_child_nodes(parent):
            yield parent, child


def called(node):
    if not isinstance(node, ast.Call):
        return None
    return node.func.id if isinstance(node.func, ast.Name) else node.func.attr


def in_each_file(test):
    def run(self):
        for path in FILES:
            text = path.read_text(encoding="utf-8")
            with self.subTest(path.name):
                test(self, text, ast.parse(text))
    return run


class Form(unittest.TestCase):
    def test_the_folder_holds_python_files_alone(self):
        self.assertIn(PACKAGE / "__init__.py", FILES)
        for path in PACKAGE.iterdir():
            self.assertTrue(path.name == "__pycache__" or re.fullmatch(r"(__init__|[a-z][a-z0-9_]*)\.py", path.name))

    @in_each_file
    def test_signs_lines_and_words(self, text, tree):
        self.assertIsNone(re.search(r"[^ -~\n]", text))
        self.assertLessEqual(len(text.splitlines()), 400)
        self.assertLessEqual(max(len(row) for row in text.splitlines()), 120)
        self.assertEqual([word for word in re.findall(r"\w+", text) if word in WORDS_OUT], [])
        self.assertIsNone(re.search("dataclass|overload|contextmanager", text))

    @in_each_file
    def test_functions_are_short(self, text, tree):
        for node in ast.walk(tree):
            if isinstance(node, ast.FunctionDef):
                self.assertLessEqual(node.end_lineno - node.lineno + 1, 40, node.name)

    @in_each_file
    def test_only_the_known_parts_of_the_language(self, text, tree):
        for node in ast.walk(tree):
            self.assertIn(node.__class__.__name__, NODES, getattr(node, "lineno", None))
            if isinstance(node, ast.Assign):
                self.assertEqual(len(node.targets), 1)
            if isinstance(node, (ast.For, ast.While)):
                self.assertEqual(node.orelse, [])
            if isinstance(node, ast.Try):
                self.assertEqual(node.finalbody, [])
            if isinstance(node, ast.ListComp):
                self.assertEqual(len(node.generators), 1)
                self.assertLessEqual(len(node.generators[0].ifs), 1)
            if isinstance(node, (ast.FunctionDef, ast.ClassDef)):
                self.assertEqual(node.decorator_list, [])
            if isinstance(node, ast.arguments):
                self.assertFalse(node.vararg or node.kwarg or node.kwonlyargs or node.posonlyargs)
            if isinstance(node, ast.Constant):
                self.assertIn(type(node.value), (int, str, bool, type(None)))
                self.assertFalse(isinstance(node.value, str) and "%" in node.value)
            if isinstance(node, ast.FormattedValue):
                self.assertIsInstance(node.value, ast.Name)
                self.assertIsNone(node.format_spec)
            if isinstance(node, ast.BinOp) and isinstance(node.op, ast.Pow):
                self.assertIsInstance(node.right, ast.Constant)
            if isinstance(node, ast.Compare) and any(isinstance(op, (ast.Is, ast.IsNot)) for op in node.ops):
                self.assertIsInstance(node.comparators[-1], ast.Constant)

    @in_each_file
    def test_only_the_known_names(self, text, tree):
        names = list(names_of(tree))
        self.assertEqual([name for name in names if name.startswith("_") and name not in DUNDERS], [])
        self.assertEqual([name for name in names if name in NAMES_OUT], [])
        loaded = [node.id for node in ast.walk(tree) if isinstance(node, ast.Name)]
        self.assertEqual([name for name in loaded if hasattr(builtins, name) and name not in OWN_NAMES], [])
        self.assertEqual([name for name in bound_names(tree) if hasattr(builtins, name)], [])

    @in_each_file
    def test_methods_of_pythons_own_values(self, text, tree):
        found = [node.attr for node in ast.walk(tree) if isinstance(node, ast.Attribute)]
        self.assertEqual([name for name in found if name in PYTHONS_METHODS
                          and name not in METHODS and name not in DUNDERS], [])

    @in_each_file
    def test_what_is_walked_is_not_kept(self, text, tree):
        for parent, child in with_parents(tree):
            if called(child) in WALKED:
                walked = isinstance(parent, (ast.For, ast.comprehension)) and child is parent.iter
                taken = called(parent) in WALKERS and child in parent.args
                self.assertTrue(walked or taken, child.lineno)

    @in_each_file
    def test_sets_are_not_kept(self, text, tree):
        for parent, child in with_parents(tree):
            if called(child) in ("set", "frozenset"):
                self.assertTrue(called(parent) in ("len", "sorted") or isinstance(parent, (ast.Compare, ast.BinOp)),
                                child.lineno)

    @in_each_file
    def test_imports_are_of_the_package_and_at_the_top(self, text, tree):
        for node in ast.walk(tree):
            if isinstance(node, ast.ImportFrom):
                self.assertIn(node, tree.body)
                self.assertEqual(node.level, 0)
                self.assertTrue(node.module.startswith("grantweave."))
                self.assertNotIn("*", [alias.name for alias in node.names])

    @in_each_file
    def test_no_local_is_called_like_a_class_or_an_import(self, text, tree):
        top = [node.name for node in ast.walk(tree) if isinstance(node, ast.ClassDef)]
        for node in tree.body:
            if isinstance(node, ast.ImportFrom):
                top.extend(alias.asname or alias.name for alias in node.names)
        self.assertEqual([name for name in bound_names(tree) if name in top], [])

    @in_each_file
    def test_the_top_of_a_file(self, text, tree):
        self.assertIsNotNone(ast.get_docstring(tree))
        names = []
        for node in tree.body[1:]:
            self.assertIsInstance(node, (ast.ImportFrom, ast.FunctionDef, ast.ClassDef, ast.Assign))
            if isinstance(node, ast.Assign):
                names.append(node.targets[0].id)
            elif not isinstance(node, ast.ImportFrom):
                names.append(node.name)
        self.assertEqual(len(names), len(set(names)))

    def test_no_name_is_a_method_here_and_a_value_there(self):
        methods, values = set(), set()
        for path in FILES:
            for node in ast.walk(ast.parse(path.read_text(encoding="utf-8"))):
                if isinstance(node, ast.ClassDef):
                    own = [part.name for part in node.body if isinstance(part, ast.FunctionDef)]
                    self.assertEqual(len(own), len(set(own)), node.name)
                    methods.update(own)
                elif isinstance(node, ast.Attribute) and isinstance(node.ctx, ast.Store):
                    values.add(node.attr)
        self.assertEqual(methods & values, set())

    def test_no_two_files_draw_from_one_another(self):
        draws = {}
        for path in FILES:
            tree = ast.parse(path.read_text(encoding="utf-8"))
            draws[path.stem] = [node.module.split(".")[1] for node in tree.body if isinstance(node, ast.ImportFrom)]
        self.assertEqual(draws["__init__"], [])
        while draws:
            free = [name for name in draws if not any(other in draws for other in draws[name])]
            self.assertTrue(free, draws)
            for name in free:
                draws.pop(name)


if __name__ == "__main__":
    unittest.main()
