"""Rules for the files of the package that can be seen in the code: sizes, signs, names, imports, calls."""

import ast
import builtins
import pathlib
import re
import unittest

PACKAGE = pathlib.Path(__file__).resolve().parent.parent / "scanmisses"
BUILTINS = set("""
    len range enumerate zip min max sum abs sorted reversed int str bool list tuple dict set isinstance ord repr any
    all divmod super property Exception ValueError TypeError KeyError IndexError LookupError ZeroDivisionError
    ArithmeticError OverflowError RuntimeError NotImplementedError AttributeError StopIteration NotImplemented
""".split())
METHODS = set("""
    append clear copy count endswith extend find get index insert isalnum isalpha isdigit islower isspace isupper
    items join keys ljust lower lstrip partition pop remove replace reverse rfind rjust rpartition rsplit rstrip
    setdefault split splitlines startswith strip update upper values zfill bit_length isascii isdecimal
    removeprefix removesuffix __init__
""".split())
SPECIAL = set("""
    __init__ __eq__ __repr__ __str__ __len__ __call__ __iter__ __lt__ __le__ __gt__ __ge__ __ne__ __add__ __sub__
    __mul__ __invert__ __neg__ __bool__ __contains__ __getitem__
""".split())
BARRED = re.compile(
    r"\b(type|typing|enum|Enum|Flag|Generic|Protocol|ABC|namedtuple|NamedTuple|abstractmethod|open|input|law|mro"
    r"|register|elements|eval|exec|compile|vars|dir|id|locals|globals|chr|float)\b")
LIBRARY = {"heapq", "math", "itertools", "collections"}
NEED_LISTS = {"any", "all", "min", "max", "sum", "sorted"}


def code_files():
    return sorted(PACKAGE.rglob("*.py"))


def trees():
    return [(path, ast.parse(path.read_text())) for path in code_files()]


def own_imports(tree):
    """The imports of a file from the package, as pairs of a module and the names."""
    found = [node for node in tree.body if isinstance(node, ast.ImportFrom) and node.module not in LIBRARY]
    return [(node.module, [alias.name for alias in node.names]) for node in found]


def names_defined(tree):
    """What a file binds at module level, imports left out."""
    found = [node.name for node in tree.body if isinstance(node, (ast.FunctionDef, ast.ClassDef))]
    for node in tree.body:
        if isinstance(node, ast.Assign):
            found.extend(target.id for target in node.targets)
    return found


def without_comments(path):
    """The code of a file without its docstrings and comments."""
    tree = ast.parse(path.read_text())
    for node in ast.walk(tree):
        if isinstance(node, (ast.Module, ast.ClassDef, ast.FunctionDef)) and ast.get_docstring(node) is not None:
            node.body[0] = ast.Pass()
    return ast.unparse(tree)


class FilesTest(unittest.TestCase):
    def test_sizes_and_signs(self):
        self.assertGreater(len(code_files()), 3)
        for path in code_files():
            text = path.read_text()
            self.assertTrue(all(" " <= sign <= "~" or sign == "\n" for sign in text), path)
            self.assertLessEqual(len(text.splitlines()), 399, path)
            self.assertLessEqual(max(len(line) for line in text.splitlines()), 120, path)
            self.assertTrue(text.endswith("\n"), path)

    def test_only_code_in_the_package(self):
        for path in PACKAGE.rglob("*"):
            if "__pycache__" not in path.parts:
                self.assertEqual(path.suffix, ".py", path)

    def test_functions_are_short(self):
        for path, tree in trees():
            for node in ast.walk(tree):
                if isinstance(node, ast.FunctionDef):
                    self.assertLessEqual(node.end_lineno - node.lineno + 1, 40, (path, node.name))

    def test_module_level(self):
        allowed = (ast.ImportFrom, ast.FunctionDef, ast.ClassDef, ast.Assign, ast.Expr)
        for path, tree in trees():
            for node in tree.body:
                self.assertIsInstance(node, allowed, path)

    def test_words_and_percent_signs(self):
        for path in code_files():
            code = without_comments(path)
            self.assertIsNone(BARRED.search(code), path)
            self.assertNotIn("%", "".join(
                node.value for node in ast.walk(ast.parse(code))
                if isinstance(node, ast.Constant) and isinstance(node.value, str)), path)


class ImportsTest(unittest.TestCase):
    def test_imports_name_the_defining_file(self):
        defined = {f"scanmisses.{path.stem}": names_defined(tree) for path, tree in trees()}
        for path, tree in trees():
            for node in ast.walk(tree):
                self.assertNotIsInstance(node, ast.Import, path)
            for module, names in own_imports(tree):
                for name in names:
                    self.assertIn(name, defined[module], path)

    def test_no_circles(self):
        needs = {f"scanmisses.{path.stem}": {module for module, _ in own_imports(tree)} for path, tree in trees()}
        while needs:
            free = [module for module in needs if not needs[module]]
            self.assertTrue(free, needs)
            needs = {module: needs[module] - set(free) for module in needs if module not in free}

    def test_each_import_is_used_and_hidden_by_no_other_name(self):
        for path, tree in trees():
            imported = [name for _, names in own_imports(tree) for name in names]
            used = [node.id for node in ast.walk(tree) if isinstance(node, ast.Name)]
            assigned = [node.id for node in ast.walk(tree) if isinstance(node, ast.Name)
                        and isinstance(node.ctx, ast.Store)]
            assigned.extend(node.arg for node in ast.walk(tree) if isinstance(node, ast.arg))
            for name in imported:
                self.assertIn(name, used, path)
                self.assertNotIn(name, assigned, path)
            for name in assigned:
                self.assertFalse(hasattr(builtins, name), (path, name))


class CallsTest(unittest.TestCase):
    def test_builtins(self):
        for path, tree in trees():
            for node in ast.walk(tree):
                if isinstance(node, ast.Name) and hasattr(builtins, node.id):
                    self.assertIn(node.id, BUILTINS, path)

    def test_methods(self):
        own = {node.name for _, tree in trees() for node in ast.walk(tree) if isinstance(node, ast.FunctionDef)}
        for path, tree in trees():
            for node in ast.walk(tree):
                if isinstance(node, ast.Call) and isinstance(node.func, ast.Attribute):
                    self.assertIn(node.func.attr, METHODS | own, path)

    def test_lists_instead_of_generator_expressions(self):
        for path, tree in trees():
            for node in ast.walk(tree):
                if isinstance(node, ast.Call) and isinstance(node.func, ast.Name) and node.func.id in NEED_LISTS:
                    for argument in node.args:
                        self.assertNotIsInstance(argument, ast.GeneratorExp, path)

    def test_special_methods_and_decorators(self):
        for path, tree in trees():
            for node in ast.walk(tree):
                if isinstance(node, ast.FunctionDef):
                    if node.name.startswith("__"):
                        self.assertIn(node.name, SPECIAL, path)
                    self.assertIn([ast.unparse(row) for row in node.decorator_list], ([], ["property"]), path)

    def test_no_floats_and_no_division(self):
        for path, tree in trees():
            for node in ast.walk(tree):
                self.assertNotIsInstance(node, ast.Div, path)
                if isinstance(node, ast.Constant):
                    self.assertNotIsInstance(node.value, (float, complex), path)
