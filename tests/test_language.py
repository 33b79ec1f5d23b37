"""Those rules of LANGUAGE.md that can be read off the code of the package without much guessing."""

import ast
import builtins
import pathlib
import re
import unittest

PACKAGE = pathlib.Path(__file__).resolve().parent.parent / "seenrows"
ERRORS = """Exception ValueError TypeError KeyError IndexError LookupError ZeroDivisionError ArithmeticError OverflowError
    RuntimeError NotImplementedError AttributeError StopIteration""".split()
BUILTINS = """len range enumerate zip min max sum abs sorted reversed int str bool list tuple dict set isinstance ord repr
    any all divmod NotImplemented iter next super property staticmethod classmethod""".split() + ERRORS
METHODS = """append clear copy count endswith extend find get index insert isalnum isalpha isdigit islower isspace isupper
    items join keys ljust lower lstrip partition pop remove replace reverse rfind rjust rpartition rsplit rstrip
    setdefault split splitlines startswith strip update upper values zfill bit_length title capitalize swapcase casefold
    center expandtabs removeprefix removesuffix rindex isascii isdecimal isnumeric istitle isidentifier isprintable
    translate add discard""".split()
DUNDERS = """init eq repr str len enter exit call iter lt le gt ge ne add sub mul floordiv mod pow and or xor lshift
    rshift radd rsub rmul rfloordiv rmod rand ror rxor rlshift rrshift neg pos invert abs bool contains getitem
    setitem""".split()
BARRED_WORDS = """type typing typing_extensions enum Enum IntEnum StrEnum Flag IntFlag Generic Protocol ABC ABCMeta
    namedtuple NamedTuple TypedDict TYPE_CHECKING abstractmethod""".split()
BARRED_NAMES = "register mro elements open input law version_info with_traceback add_note keys".split()
BARRED_STATEMENTS = (ast.Global, ast.AsyncFunctionDef, ast.AsyncFor, ast.AsyncWith, ast.Await, ast.Div, ast.Import)
MODULE_LEVEL = (ast.ImportFrom, ast.FunctionDef, ast.ClassDef, ast.Assign, ast.Expr)
TAKE_LISTS = "sum min max sorted any all".split()
ORDERS = "__lt__ __le__ __gt__ __ge__".split()
PLAIN = "len int ord str".split()
COMPARE_OR_COUNT = """__eq__ __lt__ __le__ __gt__ __ge__ __ne__ __add__ __sub__ __mul__ __floordiv__ __mod__ __pow__ __radd__
    __rsub__ __rmul__ __rfloordiv__ __rmod__""".split()
CHANGES = "append extend insert pop remove reverse clear update setdefault".split()


def sources():
    return {path: path.read_text(encoding="utf-8") for path in sorted(PACKAGE.rglob("*.py"))}


def trees():
    return {path: ast.parse(text) for path, text in sources().items()}


def nodes(kind):
    return [(path, node) for path, tree in trees().items() for node in ast.walk(tree) if isinstance(node, kind)]


def where(path, node):
    return f"{path.name}:{node.lineno}"


def bound_names(tree):
    """The names that a file binds, without attributes, methods and the names of imports."""
    methods = {id(node) for cls in ast.walk(tree) if isinstance(cls, ast.ClassDef) for node in cls.body}
    for node in ast.walk(tree):
        if isinstance(node, (ast.FunctionDef, ast.ClassDef)) and id(node) not in methods:
            yield node.name, node
        elif isinstance(node, ast.Name) and isinstance(node.ctx, (ast.Store, ast.Del)):
            yield node.id, node
        elif isinstance(node, ast.arg):
            yield node.arg, node
        elif isinstance(node, ast.ExceptHandler) and node.name:
            yield node.name, node


class Files(unittest.TestCase):
    def test_names_of_files(self):
        for path in PACKAGE.rglob("*"):
            if path.is_file() and path.suffix != ".pyc":
                self.assertRegex(path.name, r"^([a-z][a-z0-9_]*|__init__|__main__)\.py$")
                self.assertFalse(path.stem.isalpha() and hasattr(builtins, path.stem), path.name)
            elif path.is_dir() and path.name != "__pycache__":
                self.assertTrue((path / "__init__.py").exists(), path)
        self.assertTrue((PACKAGE / "__init__.py").exists())

    def test_characters_and_sizes(self):
        for path, text in sources().items():
            lines = text.split("\n")
            self.assertLessEqual(len(lines), 399, path.name)
            for at, line in enumerate(lines, 1):
                self.assertLessEqual(len(line), 120, (path.name, at))
                self.assertTrue(all(" " <= sign <= "~" for sign in line), (path.name, at))
        for path, node in nodes(ast.FunctionDef):
            self.assertLessEqual(node.end_lineno - node.lineno + 1, 40, where(path, node))

    def test_barred_words(self):
        for path, text in sources().items():
            for word in BARRED_WORDS:
                self.assertIsNone(re.search(rf"\b{word}\b", text), (path.name, word))
            for word in ("dataclass", "overload", "contextmanager"):
                self.assertNotIn(word, text)

    def test_strings(self):
        for path, node in nodes(ast.Constant):
            if isinstance(node.value, str):
                self.assertNotIn("%", node.value, where(path, node))
            self.assertNotIsInstance(node.value, (float, complex), where(path, node))


class Structure(unittest.TestCase):
    def test_statements(self):
        for path, node in nodes(BARRED_STATEMENTS):
            self.fail(f"{path.name}: {ast.dump(node)[:80]}")
        for path, tree in trees().items():
            for node in tree.body:
                self.assertIsInstance(node, MODULE_LEVEL, where(path, node))
                if isinstance(node, ast.Expr):
                    self.assertIsInstance(node.value, ast.Constant, where(path, node))

    def test_imports_name_the_defining_file(self):
        defined = {path.stem: {name for name, node in bound_names(tree)} for path, tree in trees().items()}
        for path, node in nodes(ast.ImportFrom):
            self.assertEqual(node.level, 0, where(path, node))
            self.assertRegex(node.module, r"^seenrows\.[a-z_]+$")
            for alias in node.names:
                self.assertIn(alias.name, defined[node.module.split(".")[1]], where(path, node))

    def test_imports_go_one_way(self):
        needs = {path.stem: set() for path in sources()}
        for path, node in nodes(ast.ImportFrom):
            needs[path.stem].add(node.module.split(".")[1])
        while needs:
            free = [name for name, other in needs.items() if not other & set(needs)]
            self.assertTrue(free, needs)
            needs = {name: other for name, other in needs.items() if name not in free}

    def test_decorators_and_parameters(self):
        for path, node in nodes(ast.FunctionDef):
            for decorator in node.decorator_list:
                text = ast.unparse(decorator)
                fits = text in ("property", "staticmethod", "classmethod") or text.endswith(".setter")
                self.assertTrue(fits, where(path, node))
            self.assertEqual(node.args.posonlyargs, [], where(path, node))
        for path, node in nodes(ast.ClassDef):
            self.assertEqual(node.decorator_list, [], where(path, node))

    def test_methods_of_classes(self):
        for path, node in nodes(ast.ClassDef):
            names = [item.name for item in node.body if isinstance(item, ast.FunctionDef)]
            for name in names:
                if name.startswith("__"):
                    self.assertIn(name.strip("_"), DUNDERS, where(path, node))
            if "__getitem__" in names:
                self.assertIn("__iter__", names, where(path, node))

    def test_handlers_name_errors(self):
        for path, node in nodes(ast.ExceptHandler):
            self.assertIsNotNone(node.type, where(path, node))
            for barred in ("Exception", "TypeError", "ArithmeticError", "OverflowError", "RuntimeError"):
                self.assertNotIn(barred, ast.unparse(node.type).split("."), where(path, node))


class Names(unittest.TestCase):
    def test_names_are_plain(self):
        for path, tree in trees().items():
            for name, node in bound_names(tree):
                self.assertRegex(name, r"^[A-Za-z][A-Za-z0-9_]*$", where(path, node))
                self.assertFalse(hasattr(builtins, name), (where(path, node), name))
                self.assertNotIn(name, BARRED_NAMES, where(path, node))

    def test_no_variable_has_the_name_of_a_class_or_an_import(self):
        for path, tree in trees().items():
            taken = {node.name for node in ast.walk(tree) if isinstance(node, ast.ClassDef)}
            for node in ast.walk(tree):
                if isinstance(node, ast.ImportFrom):
                    taken |= {alias.asname or alias.name for alias in node.names}
            for name, node in bound_names(tree):
                if not isinstance(node, ast.ClassDef):
                    self.assertNotIn(name, taken, where(path, node))

    def test_builtins(self):
        for path, node in nodes(ast.Name):
            if isinstance(node.ctx, ast.Load) and hasattr(builtins, node.id):
                self.assertIn(node.id, BUILTINS, where(path, node))

    def test_no_name_is_a_method_and_an_attribute(self):
        methods = {item.name for path, node in nodes(ast.ClassDef) for item in node.body if hasattr(item, "name")}
        stored = [(path, node) for path, node in nodes(ast.Attribute) if isinstance(node.ctx, ast.Store)]
        for path, node in stored:
            setter = isinstance(node.value, ast.Name) and node.attr in methods
            self.assertFalse(setter, (where(path, node), node.attr))

    def test_methods_that_are_called(self):
        own = {item.name for path, node in nodes(ast.ClassDef) for item in node.body if hasattr(item, "name")}
        for path, node in nodes(ast.Call):
            if isinstance(node.func, ast.Attribute) and node.func.attr != "__init__":
                self.assertIn(node.func.attr, set(METHODS) | own, where(path, node))

    def test_is_only_beside_none_true_and_false(self):
        for path, node in nodes(ast.Compare):
            for sign, side in zip(node.ops, node.comparators):
                if isinstance(sign, (ast.Is, ast.IsNot)):
                    self.assertIn(getattr(side, "value", side), (None, True, False), where(path, node))

    def test_lists_are_taken_where_a_class_has_operators(self):
        for path, node in nodes(ast.Call):
            if isinstance(node.func, ast.Name) and node.func.id in TAKE_LISTS:
                self.assertFalse(any(isinstance(side, ast.GeneratorExp) for side in node.args), where(path, node))


def own_lists(function):
    """The names that a function assigns nothing but lists and dicts which it makes itself."""
    made, other = set(), {arg.arg for arg in function.args.args}
    for node in ast.walk(function):
        if isinstance(node, ast.Assign):
            for target in node.targets:
                fresh = isinstance(target, ast.Name) and isinstance(node.value, (ast.List, ast.Dict, ast.ListComp))
                stored = [side for side in ast.walk(target) if isinstance(side, ast.Name)]
                (made if fresh else other).update(side.id for side in stored if isinstance(side.ctx, ast.Store))
        elif isinstance(node, (ast.For, ast.comprehension)):
            other |= {side.id for side in ast.walk(node.target) if isinstance(side, ast.Name)}
    return made - other


def is_plain(node):
    """Tell whether the code says that this is a number or a string, as L5 asks where a class has an order."""
    if isinstance(node, ast.Constant):
        return isinstance(node.value, int)
    if isinstance(node, ast.BinOp):
        return is_plain(node.left) and is_plain(node.right)
    if isinstance(node, (ast.ListComp, ast.List)):
        return all(is_plain(side) for side in (node.elts if isinstance(node, ast.List) else [node.elt]))
    return isinstance(node, ast.Call) and isinstance(node.func, ast.Name) and node.func.id in PLAIN


class Operators(unittest.TestCase):
    def test_orders_are_asked_of_numbers_only(self):
        self.assertTrue([node for path, node in nodes(ast.FunctionDef) if node.name in ORDERS])
        for path, node in nodes(ast.Call):
            if isinstance(node.func, ast.Name) and node.func.id in ("min", "max", "sorted"):
                self.assertTrue(any(is_plain(side) for side in node.args), where(path, node))
            if isinstance(node.func, ast.Attribute):
                self.assertNotEqual(node.func.attr, "sort", where(path, node))

    def test_attributes_are_assigned_when_an_object_is_made(self):
        """Only houses change, and they do so in plain methods."""
        for path, function in nodes(ast.FunctionDef):
            if function.name != "__init__" and (path.stem != "houses" or function.name.startswith("__")):
                for node in ast.walk(function):
                    stored = isinstance(node, ast.Attribute) and not isinstance(node.ctx, ast.Load)
                    self.assertFalse(stored, where(path, function))

    def test_functions_change_only_what_they_made(self):
        for path, function in nodes(ast.FunctionDef):
            mine = own_lists(function)
            for node in ast.walk(function):
                if isinstance(node, ast.Subscript) and not isinstance(node.ctx, ast.Load):
                    self.assertIn(ast.unparse(node.value), mine, where(path, node))
                if isinstance(node, ast.Call) and isinstance(node.func, ast.Attribute) and node.func.attr in CHANGES:
                    self.assertIn(ast.unparse(node.func.value), mine, where(path, node))

    def test_a_finally_only_assigns(self):
        for path, node in nodes(ast.Try):
            for statement in node.finalbody:
                self.assertIsInstance(statement, ast.Assign, where(path, statement))
                for side in ast.walk(statement):
                    self.assertNotIsInstance(side, (ast.Call, ast.Subscript, ast.BinOp, ast.UnaryOp, ast.Compare))

    def test_what_stands_behind_a_star(self):
        for path, node in nodes((ast.Call, ast.Dict)):
            starred = [side.value for side in node.args if isinstance(side, ast.Starred)] if hasattr(node, "args") else []
            if isinstance(node, ast.Dict):
                starred = [side for key, side in zip(node.keys, node.values) if key is None]
            for side in starred:
                self.assertRegex(ast.unparse(side), r"^[a-z]+([.][a-z]+)?$", where(path, node))

    def test_signs_that_assign(self):
        for path, node in nodes(ast.AugAssign):
            self.assertIsInstance(node.target, ast.Name, where(path, node))
            self.assertIsInstance(node.op, (ast.Add, ast.Sub, ast.FloorDiv), where(path, node))
            if isinstance(node.op, ast.Add):
                self.assertIsInstance(node.value, ast.Constant, where(path, node))

    def test_not_implemented_is_returned_where_it_may_be(self):
        allowed = set()
        for path, function in nodes(ast.FunctionDef):
            if function.name in COMPARE_OR_COUNT:
                for node in ast.walk(function):
                    if isinstance(node, ast.Return) and isinstance(node.value, ast.Name):
                        allowed.add((path, node.value.lineno, node.value.col_offset))
        for path, node in nodes(ast.Name):
            if node.id == "NotImplemented":
                self.assertIn((path, node.lineno, node.col_offset), allowed, where(path, node))

    def test_equality_and_length_assign_nothing(self):
        for path, function in nodes(ast.FunctionDef):
            if function.name in ("__eq__", "__len__", "__repr__", "__str__"):
                for node in ast.walk(function):
                    self.assertNotIsInstance(node, (ast.Assign, ast.AugAssign, ast.NamedExpr), where(path, function))

    def test_iteration_is_one_statement(self):
        for path, function in nodes(ast.FunctionDef):
            if function.name == "__iter__":
                self.assertEqual(len(function.body), 1, where(path, function))
                self.assertRegex(ast.unparse(function.body[0]), r"^(return iter\(self\.\w+\)|raise TypeError\(.*\))$")


if __name__ == "__main__":
    unittest.main()
