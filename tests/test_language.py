"""Rules of the language subset that can be read off the code of the package."""

import ast
import builtins
import pathlib
import re
import unittest
import warnings

PACKAGE = pathlib.Path(__file__).resolve().parent.parent / "touchtrees"
FILES = sorted(path for path in PACKAGE.rglob("*") if path.is_file() and "__pycache__" not in path.parts)
BUILTINS = set(
    "len range enumerate zip min max sum abs sorted reversed int str bool bytes list tuple dict set isinstance ord"
    " repr any all divmod iter next super property staticmethod classmethod NotImplemented Exception ValueError"
    " TypeError KeyError IndexError LookupError ZeroDivisionError ArithmeticError OverflowError RuntimeError"
    " NotImplementedError AttributeError StopIteration".split())
METHODS = set(
    "append clear copy count endswith extend find get index insert isalnum isalpha isdigit islower isspace isupper"
    " items join keys ljust lower lstrip partition pop remove replace reverse rfind rjust rpartition rsplit rstrip"
    " setdefault split splitlines startswith strip update upper values zfill bit_length add discard title capitalize"
    " swapcase casefold center expandtabs removeprefix removesuffix rindex isascii isdecimal isnumeric istitle"
    " isidentifier isprintable".split())
BUILTIN_ATTRIBUTES = {name for kind in (str, int, list, tuple, dict, set, bytes) for name in dir(kind)}
DUNDER_METHODS = set("__init__ __eq__ __repr__ __str__ __len__".split())
BARRED_WORDS = set(
    "type typing typing_extensions enum Enum IntEnum StrEnum Flag IntFlag Generic Protocol ABC ABCMeta namedtuple"
    " NamedTuple TypedDict TYPE_CHECKING abstractmethod".split())
BARRED_PARTS = ("dataclass", "overload", "contextmanager")
BARRED_NAMES = set("register mro elements open input version_info with_traceback add_note format format_map".split())
BARRED_NODES = (
    ast.Global, ast.AsyncFunctionDef, ast.AsyncFor, ast.AsyncWith, ast.Await, ast.Div, ast.Import)


def tree_of(path):
    return ast.parse(path.read_text(encoding="ascii"))


def all_nodes():
    return [(path.name, node) for path in FILES for node in ast.walk(tree_of(path))]


def functions():
    return [(name, node) for name, node in all_nodes() if isinstance(node, ast.FunctionDef)]


def parameters(node):
    return [arg.arg for arg in node.args.posonlyargs + node.args.args + node.args.kwonlyargs]


def bound_names(tree):
    """The names that a module binds at its top, one for each binding."""
    names = []
    for node in tree.body:
        if isinstance(node, (ast.FunctionDef, ast.ClassDef)):
            names.append(node.name)
        elif isinstance(node, ast.ImportFrom):
            names.extend(alias.asname or alias.name for alias in node.names)
        elif isinstance(node, ast.Assign):
            names.extend(target.id for target in node.targets)
    return names


def imports_of(path):
    """The pairs (module, name) that a file of the package imports."""
    found = [node for node in tree_of(path).body if isinstance(node, ast.ImportFrom)]
    return [(node.module, alias.name) for node in found for alias in node.names]


def classes():
    return [node for _, node in all_nodes() if isinstance(node, ast.ClassDef)]


def methods_of(node):
    return [row for row in node.body if isinstance(row, ast.FunctionDef)]


def stored_attributes():
    return {
        node.attr for _, node in all_nodes() if isinstance(node, ast.Attribute) and isinstance(node.ctx, ast.Store)}


class FilesAndCharacters(unittest.TestCase):

    def test_the_package_has_only_python_files_with_plain_names(self):
        self.assertIn(PACKAGE / "__init__.py", FILES)
        for path in FILES:
            self.assertRegex(path.name, r"^(__init__|__main__|[a-z][a-z0-9_]*)\.py$")

    def test_characters_and_sizes(self):
        for path in FILES:
            text = path.read_bytes().decode("ascii")
            self.assertRegex(text, r"\A[ -~\n]*\Z", path.name)
            lines = text.split("\n")
            self.assertLessEqual(len(lines), 401, path.name)
            self.assertLessEqual(max(len(line) for line in lines), 120, path.name)
        for name, node in functions():
            self.assertLessEqual(node.end_lineno - node.lineno + 1, 40, (name, node.name))

    def test_python_gives_no_warning(self):
        for path in FILES:
            with warnings.catch_warnings():
                warnings.simplefilter("error")
                compile(path.read_text(encoding="ascii"), path.name, "exec")

    def test_barred_words(self):
        for path in FILES:
            text = path.read_text(encoding="ascii")
            self.assertEqual(set(re.findall(r"\w+", text)) & BARRED_WORDS, set(), path.name)
            self.assertEqual([part for part in BARRED_PARTS if part in text], [], path.name)

    def test_strings(self):
        for name, node in all_nodes():
            if isinstance(node, ast.Constant):
                self.assertNotIsInstance(node.value, float, name)
                if isinstance(node.value, str):
                    self.assertNotIn("%", node.value, name)


class Modules(unittest.TestCase):

    def test_a_module_has_only_imports_functions_classes_and_values(self):
        for path in FILES:
            for at, node in enumerate(tree_of(path).body):
                if at == 0:
                    self.assertIsInstance(node, ast.Expr, path.name)
                else:
                    allowed = (ast.ImportFrom, ast.FunctionDef, ast.ClassDef, ast.Assign)
                    self.assertIsInstance(node, allowed, path.name)

    def test_each_name_is_bound_once(self):
        for path in FILES:
            names = bound_names(tree_of(path))
            self.assertEqual(sorted(set(names)), sorted(names), path.name)

    def test_imports_name_the_file_that_defines_the_name(self):
        for name, node in all_nodes():
            if isinstance(node, ast.ImportFrom):
                self.assertEqual(node.level, 0, name)
                self.assertRegex(node.module, r"^touchtrees\.[a-z_]+$", name)
        for path in FILES:
            for module, wanted in imports_of(path):
                source = PACKAGE / (module.split(".")[1] + ".py")
                self.assertIn(wanted, bound_names(tree_of(source)), path.name)
                self.assertNotIn(wanted, [name for _, name in imports_of(source)], path.name)

    def test_no_two_files_import_from_each_other(self):
        needs = {path.stem: {module.split(".")[1] for module, _ in imports_of(path)} for path in FILES}
        while needs:
            free = [name for name in needs if not needs[name] & set(needs)]
            self.assertNotEqual(free, [], f"a circle of imports in {sorted(needs)}")
            for name in free:
                del needs[name]

    def test_imported_names_are_used(self):
        for path in FILES:
            used = {node.id for node in ast.walk(tree_of(path)) if isinstance(node, ast.Name)}
            self.assertEqual({name for _, name in imports_of(path)} - used, set(), path.name)


class Code(unittest.TestCase):

    def test_barred_nodes(self):
        for name, node in all_nodes():
            self.assertNotIsInstance(node, BARRED_NODES, name)

    def test_names_are_plain(self):
        for name, node in all_nodes():
            for field in ("id", "arg", "attr", "name"):
                word = getattr(node, field, None)
                if isinstance(word, str):
                    self.assertNotIn(word, BARRED_NAMES, name)
                    if word not in DUNDER_METHODS:
                        self.assertRegex(word, r"^[A-Za-z][A-Za-z0-9_]*$", name)

    def test_only_listed_builtins_are_used_and_none_is_renamed(self):
        for name, node in all_nodes():
            if isinstance(node, ast.Name) and node.id in dir(builtins):
                self.assertIn(node.id, BUILTINS, name)
                self.assertIsInstance(node.ctx, ast.Load, (name, node.id))
        for name, node in functions():
            self.assertEqual(set(parameters(node)) & set(dir(builtins)), set(), (name, node.name))
            self.assertEqual(node.args.posonlyargs, [], (name, node.name))

    def test_no_local_name_hides_a_class_or_an_import(self):
        for path in FILES:
            tree = tree_of(path)
            fixed = {name for _, name in imports_of(path)}
            fixed |= {node.name for node in tree.body if isinstance(node, ast.ClassDef)}
            for node in ast.walk(tree):
                if isinstance(node, ast.Name) and isinstance(node.ctx, ast.Store):
                    self.assertNotIn(node.id, fixed, path.name)
                if isinstance(node, ast.FunctionDef):
                    self.assertEqual(set(parameters(node)) & fixed, set(), path.name)

    def test_only_listed_methods_are_called(self):
        own = {node.name for _, node in functions()}
        for name, node in all_nodes():
            if isinstance(node, ast.Call) and isinstance(node.func, ast.Attribute):
                self.assertIn(node.func.attr, METHODS | own, name)

    def test_lists_stand_where_a_class_with_eq_would_bar_generator_expressions(self):
        for name, node in all_nodes():
            self.assertNotIsInstance(node, ast.GeneratorExp, name)

    def test_keywords_of_builtins(self):
        allowed = {
            "sorted": {"key", "reverse"}, "min": {"key", "default"}, "max": {"key", "default"}, "sum": {"start"},
            "enumerate": {"start"}, "zip": {"strict"}}
        for name, node in all_nodes():
            if isinstance(node, ast.Call):
                called = getattr(node.func, "id", getattr(node.func, "attr", None))
                if called in BUILTINS | METHODS:
                    self.assertLessEqual({word.arg for word in node.keywords}, allowed.get(called, set()), name)

    def test_sets_are_not_iterated(self):
        for name, node in all_nodes():
            if isinstance(node, (ast.For, ast.comprehension)):
                self.assertNotIsInstance(node.iter, (ast.Set, ast.SetComp), name)
                self.assertFalse(isinstance(node.iter, ast.Call) and getattr(node.iter.func, "id", "") == "set", name)

    def test_is_stands_only_beside_none_true_and_false(self):
        for name, node in all_nodes():
            if isinstance(node, ast.Compare):
                for sign, side in zip(node.ops, node.comparators):
                    if isinstance(sign, (ast.Is, ast.IsNot)):
                        self.assertIsInstance(side, ast.Constant, name)
                        self.assertIn(side.value, (None, True, False), name)

    def test_an_exponent_is_a_small_literal(self):
        for name, node in all_nodes():
            if isinstance(node, ast.BinOp) and isinstance(node.op, ast.Pow):
                self.assertIsInstance(node.right, ast.Constant, name)
                self.assertIn(node.right.value, range(65), name)

    def test_errors_are_raised_and_caught_by_name(self):
        for name, node in all_nodes():
            if isinstance(node, ast.Raise) and node.exc is not None:
                self.assertIsInstance(node.exc, ast.Call, name)
                self.assertIsInstance(node.exc.func, ast.Name, name)
                self.assertNotIn(node.exc.func.id, ("TreeError", "Missing"), name)

    def test_only_own_errors_are_caught(self):
        own = {node.name for node in tree_of(PACKAGE / "errors.py").body if isinstance(node, ast.ClassDef)}
        for name, node in all_nodes():
            if isinstance(node, ast.ExceptHandler):
                caught = node.type.elts if isinstance(node.type, ast.Tuple) else [node.type]
                self.assertLessEqual({error.id for error in caught}, own, name)

    def test_a_star_in_a_call_stands_before_a_name(self):
        for name, node in all_nodes():
            if isinstance(node, ast.Call):
                for argument in node.args:
                    if isinstance(argument, ast.Starred):
                        self.assertIsInstance(argument.value, ast.Name, name)

    def test_iterators_are_iterated_at_once(self):
        for name, node in all_nodes():
            if isinstance(node, (ast.Assign, ast.Return)) and isinstance(node.value, ast.Call):
                called = getattr(node.value.func, "id", getattr(node.value.func, "attr", None))
                self.assertNotIn(called, ("zip", "enumerate", "reversed", "range", "items", "keys", "values"), name)

    def test_sets_are_not_stored(self):
        for name, node in all_nodes():
            if isinstance(node, ast.Assign):
                self.assertNotIsInstance(node.value, (ast.Set, ast.SetComp), name)
                self.assertNotEqual(getattr(getattr(node.value, "func", None), "id", ""), "set", name)


class Classes(unittest.TestCase):

    def test_no_name_is_a_method_and_an_attribute(self):
        methods = {method.name for node in classes() for method in methods_of(node)}
        self.assertEqual(methods & stored_attributes(), set())

    def test_methods_and_attributes_have_no_names_of_builtin_values(self):
        names = {method.name for node in classes() for method in methods_of(node)} | stored_attributes()
        self.assertEqual((names - DUNDER_METHODS) & BUILTIN_ATTRIBUTES, set())

    def test_attributes_that_are_read_are_assigned_by_a_class(self):
        known = stored_attributes() | METHODS | {node.name for _, node in functions()}
        for name, node in all_nodes():
            if isinstance(node, ast.Attribute):
                self.assertIn(node.attr, known, name)

    def test_classes_have_only_methods_and_no_decorators(self):
        for node in classes():
            self.assertEqual(node.decorator_list, [], node.name)
            for row in node.body[1:]:
                self.assertIsInstance(row, ast.FunctionDef, node.name)
            self.assertEqual(len({method.name for method in methods_of(node)}), len(methods_of(node)), node.name)
        for name, node in functions():
            self.assertEqual(node.decorator_list, [], name)

    def test_equality_length_and_repr_are_a_single_return(self):
        for node in classes():
            for method in methods_of(node):
                if method.name in ("__eq__", "__len__", "__repr__", "__str__"):
                    self.assertEqual(len(method.body), 1, (node.name, method.name))
                    self.assertIsInstance(method.body[0], ast.Return, (node.name, method.name))
                    told = method.body[0].value
                    if method.name == "__eq__":
                        start = f"isinstance(other, {node.name}) and "
                        self.assertTrue(ast.unparse(told).startswith(start), node.name)
                    elif method.name == "__len__":
                        self.assertTrue(ast.unparse(told).startswith("len("), node.name)
                    else:
                        self.assertIsInstance(told, ast.JoinedStr, node.name)


if __name__ == "__main__":
    unittest.main()
