"""Those rules of the Python subset that can be seen in the syntax tree without much effort."""

import ast
import builtins
import pathlib
import re
import unittest
import warnings

FOLDER = pathlib.Path(__file__).resolve().parent.parent / "rainvalleys"
FILES = sorted(path for path in FOLDER.iterdir() if path.name != "__pycache__")
TREES = {path: ast.parse(path.read_text()) for path in FILES if path.suffix == ".py"}

ALLOWED_BUILTINS = set(
    "len range enumerate zip min max sum abs sorted reversed int str bool bytes list tuple dict set isinstance ord"
    " repr any all divmod iter next property staticmethod classmethod super Exception ValueError TypeError KeyError"
    " IndexError LookupError ZeroDivisionError ArithmeticError OverflowError RuntimeError NotImplementedError"
    " AttributeError StopIteration NotImplemented".split())
ALLOWED_METHODS = set(
    "append clear copy count endswith extend find get index insert isalnum isalpha isdigit islower isspace isupper"
    " items join keys ljust lower lstrip partition pop remove replace reverse rfind rjust rpartition rsplit rstrip"
    " setdefault split splitlines startswith strip update upper values zfill bit_length removeprefix removesuffix"
    " rindex isascii isdecimal isnumeric".split())
ALLOWED_DOUBLE = {f"__{name}__" for name in (
    "init eq repr str len enter exit call iter lt le gt ge ne add sub mul radd rsub rmul neg abs bool contains"
    " getitem setitem").split()}
BARRED_WORDS = set(
    "type typing typing_extensions enum Enum IntEnum StrEnum Flag IntFlag Generic Protocol ABC ABCMeta namedtuple"
    " NamedTuple TypedDict TYPE_CHECKING abstractmethod".split())
BARRED_NAMES = set(
    "register mro elements open input law version_info with_traceback add_note attrgetter breakpoint builtins compile"
    " copyright credits delattr dir eval exec exit gc getattr globals hasattr help id importlib license locals"
    " methodcaller os quit setattr super type vars sys".split())
BARRED_NODES = (ast.Global, ast.AsyncFunctionDef, ast.AsyncFor, ast.AsyncWith, ast.Await, ast.Div, ast.Import)
MODULE_LEVEL = (ast.ImportFrom, ast.FunctionDef, ast.ClassDef, ast.Assign, ast.Expr)
CHANGELESS = ("__eq__", "__repr__", "__str__", "__len__")


def nodes(kind):
    return [(path, node) for path, tree in TREES.items() for node in ast.walk(tree) if isinstance(node, kind)]


def bound_names():
    """All names that the package gives to something that is not an attribute."""
    found = [node.name for path, node in nodes((ast.FunctionDef, ast.ClassDef))]
    found += [node.arg for path, node in nodes(ast.arg)]
    return found + [node.id for path, node in nodes(ast.Name) if isinstance(node.ctx, ast.Store)]


def methods():
    return [node for path, cls in nodes(ast.ClassDef) for node in cls.body if isinstance(node, ast.FunctionDef)]


def plain_methods():
    return {node.name for node in methods() if not node.decorator_list}


class FilesTest(unittest.TestCase):
    def test_only_python_files_with_plain_names(self):
        for path in FILES:
            self.assertRegex(path.name, r"^[a-z_][a-z0-9_]*\.py$")

    def test_characters_and_sizes(self):
        for path in TREES:
            lines = path.read_text().split("\n")
            self.assertLessEqual(len(lines), 400, path)
            for line in lines:
                self.assertRegex(line, r"^[ -~]{0,120}$")

    def test_barred_words(self):
        for path in TREES:
            self.assertEqual(BARRED_WORDS & set(re.findall(r"\w+", path.read_text())), set())
            self.assertNotRegex(path.read_text(), "dataclass|overload|contextmanager")

    def test_python_gives_no_warning(self):
        with warnings.catch_warnings():
            warnings.simplefilter("error")
            for path in TREES:
                compile(path.read_text(), path.name, "exec")

    def test_functions_have_at_most_40_lines(self):
        for path, node in nodes(ast.FunctionDef):
            self.assertLess(node.end_lineno - node.lineno, 40, (path, node.name))

    def test_imports_name_the_file_that_defines_the_name(self):
        for path, node in nodes(ast.ImportFrom):
            self.assertEqual(node.level, 0)
            source = TREES[FOLDER / (node.module.removeprefix("rainvalleys.") + ".py")]
            defined = {item.name for item in source.body if isinstance(item, (ast.FunctionDef, ast.ClassDef))}
            defined |= {target.id for item in source.body if isinstance(item, ast.Assign) for target in item.targets}
            for alias in node.names:
                self.assertIn(alias.name, defined, path)

    def test_no_two_files_import_from_each_other(self):
        sources = {path.stem: {node.module.removeprefix("rainvalleys.") for node in ast.walk(tree)
                               if isinstance(node, ast.ImportFrom)} for path, tree in TREES.items()}
        while sources:
            free = [name for name, needed in sources.items() if not needed & set(sources)]
            self.assertTrue(free, sources)
            sources = {name: needed for name, needed in sources.items() if name not in free}

    def test_each_import_is_used(self):
        for path, tree in TREES.items():
            read = {node.id for node in ast.walk(tree) if isinstance(node, ast.Name)}
            for node in tree.body:
                if isinstance(node, ast.ImportFrom):
                    self.assertEqual({alias.name for alias in node.names} - read, set(), path)

    def test_module_level(self):
        for path, tree in TREES.items():
            for item in tree.body:
                self.assertIsInstance(item, MODULE_LEVEL, path)


class NamesTest(unittest.TestCase):
    def test_plain_names(self):
        for name in bound_names():
            self.assertTrue(name in ALLOWED_DOUBLE or re.fullmatch("[A-Za-z][A-Za-z0-9_]*", name), name)

    def test_barred_names_and_builtins(self):
        attributes = plain_methods()
        for name in bound_names():
            self.assertNotIn(name, BARRED_NAMES)
            if name not in attributes:
                self.assertFalse(hasattr(builtins, name), name)

    def test_builtins_that_are_read(self):
        bound = set(bound_names())
        bound |= {alias.name for path, node in nodes(ast.ImportFrom) for alias in node.names}
        for path, node in nodes(ast.Name):
            self.assertTrue(node.id in bound or node.id in ALLOWED_BUILTINS, node.id)

    def test_methods_that_are_called(self):
        own = {node.name for node in methods()}
        for path, node in nodes(ast.Call):
            if isinstance(node.func, ast.Attribute):
                self.assertIn(node.func.attr, ALLOWED_METHODS | own | {"__init__"})

    def test_no_name_is_a_method_and_an_attribute(self):
        stored = {node.attr for path, node in nodes(ast.Attribute) if isinstance(node.ctx, ast.Store)}
        self.assertEqual(stored & {node.name for node in methods()}, set())
        read = {node.attr for path, node in nodes(ast.Attribute)}
        known = stored | {node.name for node in methods()} | ALLOWED_METHODS
        self.assertEqual(read - known - {"__init__"}, set())


    def test_no_local_name_hides_a_class_or_an_import(self):
        for path, tree in TREES.items():
            barred = {alias.name for node in tree.body if isinstance(node, ast.ImportFrom) for alias in node.names}
            barred |= {node.name for node in tree.body if isinstance(node, ast.ClassDef)}
            bound = {node.arg for node in ast.walk(tree) if isinstance(node, ast.arg)}
            bound |= {node.id for node in ast.walk(tree) if isinstance(node, ast.Name)
                      and isinstance(node.ctx, ast.Store)}
            self.assertEqual(barred & bound, set(), path)

    def test_no_property_has_the_name_of_a_method_or_of_a_stored_attribute(self):
        found = {node.name for node in methods() if [name for name in node.decorator_list
                                                     if isinstance(name, ast.Name) and name.id == "property"]}
        stored = {node.attr for path, node in nodes(ast.Attribute) if isinstance(node.ctx, ast.Store)}
        self.assertEqual(found & (stored | plain_methods() | ALLOWED_METHODS), set())

    def test_no_generator_shares_its_name(self):
        functions = [node for path, node in nodes(ast.FunctionDef)]
        yielding = [node.name for node in functions
                    if [part for part in ast.walk(node) if isinstance(part, (ast.Yield, ast.YieldFrom))]]
        names = [node.name for node in functions]
        for name in yielding:
            self.assertEqual(names.count(name), 1)
            self.assertNotIn(name, ALLOWED_METHODS)


    def test_no_own_name_is_one_of_builtin_values(self):
        """Attributes and methods may have names of strings, lists and the like only where the rules allow it."""
        stored = {node.attr for path, node in nodes(ast.Attribute) if isinstance(node.ctx, ast.Store)}
        own = stored | {node.name for node in methods()}
        builtin = {name for kind in (int, str, bytes, list, tuple, dict, set) for name in dir(kind)}
        self.assertEqual({name for name in own & builtin if not name.startswith("__")} - {"index", "count"}, set())
        self.assertEqual(own & {"args", "format", "hex", "encode", "decode", "open", "input"}, set())


class SyntaxTest(unittest.TestCase):
    def check_plain(self, node):
        if isinstance(node, (ast.Tuple, ast.List)):
            for part in node.elts:
                self.assertNotIsInstance(part, (ast.List, ast.Dict))
                self.check_plain(part)
        elif isinstance(node, ast.Dict):
            for part in [*node.keys, *node.values]:
                self.assertNotIsInstance(part, (ast.List, ast.Dict))
                self.check_plain(part)
        elif isinstance(node, ast.BinOp):
            self.assertEqual(ast.unparse(node), "10 ** 30")
        else:
            self.assertIsInstance(node, ast.Constant)

    def test_values_at_module_level_are_plain(self):
        for path, tree in TREES.items():
            for item in tree.body:
                if isinstance(item, ast.Assign):
                    self.assertEqual(len(item.targets), 1)
                    self.check_plain(item.value)

    def test_keywords_of_builtins(self):
        own = {node.name for path, node in nodes((ast.FunctionDef, ast.ClassDef))}
        for path, node in nodes(ast.Call):
            name = node.func.attr if isinstance(node.func, ast.Attribute) else node.func.id
            if node.keywords and name not in own:
                self.assertEqual([name, *[keyword.arg for keyword in node.keywords]], ["sum", "start"])

    def test_powers_have_literal_exponents(self):
        for path, node in nodes(ast.BinOp):
            if isinstance(node.op, ast.Pow):
                self.assertTrue(0 <= node.right.value <= 64)

    def test_strings(self):
        for path, node in nodes(ast.Constant):
            if isinstance(node.value, str):
                self.assertFalse(node.value.endswith(("._", ".__")))
                self.assertNotRegex(node.value, "^__.*__$")
        for path, node in nodes(ast.JoinedStr):
            for value in node.values:
                if isinstance(value, ast.FormattedValue):
                    strings = [part for part in ast.walk(value.value) if isinstance(part, ast.Constant)
                               and isinstance(part.value, str)]
                    self.assertEqual(strings, [])

    def test_statements_and_operators(self):
        self.assertEqual(nodes(BARRED_NODES), [])

    def test_constants(self):
        for path, node in nodes(ast.Constant):
            self.assertNotIsInstance(node.value, (float, complex))
            if isinstance(node.value, str):
                self.assertNotIn("%", node.value)

    def test_is_only_with_none_true_and_false(self):
        for path, node in nodes(ast.Compare):
            for sign, right in zip(node.ops, node.comparators):
                if isinstance(sign, (ast.Is, ast.IsNot)):
                    self.assertIsInstance(right, ast.Constant)
                    self.assertTrue(right.value is None or isinstance(right.value, bool))

    def test_methods_that_change_nothing(self):
        for method in methods():
            if method.name in CHANGELESS:
                for node in ast.walk(method):
                    self.assertNotIsInstance(node, (ast.Assign, ast.Delete, ast.NamedExpr), method.name)
                self.assertIsInstance(method.body[-1], ast.Return)

    def test_no_generator_expression_and_the_like(self):
        self.assertEqual(nodes((ast.GeneratorExp, ast.With, ast.Match, ast.Lambda)), [])

    def test_only_own_errors_are_caught(self):
        errors = {node.name for node in TREES[FOLDER / "errors.py"].body if isinstance(node, ast.ClassDef)}
        for path, node in nodes(ast.Try):
            self.assertEqual(node.finalbody, [])
        for path, node in nodes(ast.ExceptHandler):
            caught = node.type.elts if isinstance(node.type, ast.Tuple) else [node.type]
            self.assertTrue({name.id for name in caught} <= errors, ast.unparse(node))
            self.assertIsNone(node.name)

    def test_errors_are_created_where_they_are_raised(self):
        errors = {node.name for node in TREES[FOLDER / "errors.py"].body if isinstance(node, ast.ClassDef)}
        for path, node in nodes(ast.Raise):
            self.assertIn(node.exc.func.id, errors)
            self.assertTrue(node.cause is None or ast.unparse(node.cause) == "None")

    def test_iterators_are_iterated_on_the_spot(self):
        spots = [node.iter for path, node in nodes((ast.For, ast.comprehension))]
        spots += [node.args[0] for path, node in nodes(ast.Call) if node.args and isinstance(node.func, ast.Name)
                  and node.func.id in ("list", "tuple", "sorted")]
        for path, node in nodes(ast.Call):
            name = node.func.attr if isinstance(node.func, ast.Attribute) else node.func.id
            if name in ("zip", "enumerate", "range", "reversed", "items", "keys", "values", "events"):
                self.assertIn(node, spots, (path, ast.unparse(node)))

    def test_sums_of_other_numbers_than_literals_are_written_out(self):
        """With a class that has a reflected sum, an operator and what it calls may use += with a literal only."""
        for path, node in nodes(ast.AugAssign):
            self.assertIsInstance(node.value, ast.Constant, (path, ast.unparse(node)))

    def test_order_and_sorting(self):
        """With classes that compare, sort and the like are given only what is plainly numbers or strings."""
        for path, node in nodes(ast.Call):
            if isinstance(node.func, ast.Name) and node.func.id in ("sorted", "min", "max"):
                self.assertRegex(ast.unparse(node), r"\b(int|len|str)\(", path)
            if isinstance(node.func, ast.Attribute):
                self.assertNotEqual(node.func.attr, "sort")


if __name__ == "__main__":
    unittest.main()
