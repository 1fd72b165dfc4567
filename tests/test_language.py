"""Those rules of shared/LANGUAGE.md that can be seen at a glance; the others are kept by who writes the package."""

import ast
import builtins
import pathlib
import unittest

PACKAGE = pathlib.Path(__file__).resolve().parent.parent / "firstmet"
BUILTINS = """len range enumerate zip min max sum abs sorted reversed int str bool bytes list tuple dict set frozenset
isinstance ord repr any all divmod pow getattr hasattr setattr iter next map type super property staticmethod
classmethod Exception ValueError TypeError KeyError IndexError LookupError ZeroDivisionError ArithmeticError
OverflowError RuntimeError NotImplementedError AttributeError StopIteration NotImplemented""".split()
METHODS = """append clear copy count endswith extend find get index insert isalnum isalpha isdigit islower isspace
isupper items join keys ljust lower lstrip partition pop remove replace reverse rfind rjust rpartition rsplit rstrip
setdefault split splitlines startswith strip update upper values zfill bit_length""".split()
UNSTORED = ("range", "zip", "enumerate", "reversed")
TAKE_LISTS = ("any", "all", "min", "max", "sum", "sorted")
BARRED = (ast.AsyncFunctionDef, ast.AsyncFor, ast.AsyncWith, ast.Await, ast.Import, ast.Div)


def files():
    return sorted(PACKAGE.glob("*"))


def trees():
    return [(path.stem, ast.parse(path.read_text())) for path in files() if path.suffix == ".py"]


def functions(tree):
    return [node for node in ast.walk(tree) if isinstance(node, ast.FunctionDef)]


def imports(tree):
    return [node for node in ast.walk(tree) if isinstance(node, ast.ImportFrom)]


class Language(unittest.TestCase):
    def test_the_package_holds_just_its_files(self):
        for path in files():
            if path.name != "__pycache__":
                self.assertRegex(path.name, "^[a-z_]+[.]py$")

    def test_signs_and_sizes(self):
        for path in files():
            if path.suffix == ".py":
                text = path.read_text()
                self.assertEqual([sign for sign in text if sign != "\n" and not " " <= sign <= "~"], [])
                self.assertLessEqual(len(text.splitlines()), 399)
                self.assertEqual([line for line in text.splitlines() if len(line) > 120], [])

    def test_functions_are_small(self):
        for _, tree in trees():
            for function in functions(tree):
                self.assertLessEqual(function.end_lineno - function.lineno + 1, 40, function.name)

    def test_imports_name_the_file_that_defines(self):
        defined = {name: [node.name for node in tree.body if isinstance(node, (ast.FunctionDef, ast.ClassDef))]
                   + [target.id for node in tree.body if isinstance(node, ast.Assign) for target in node.targets]
                   for name, tree in trees()}
        for _, tree in trees():
            for node in imports(tree):
                package, module = node.module.split(".")
                self.assertEqual((package, node.level), ("firstmet", 0))
                for alias in node.names:
                    self.assertIn(alias.name, defined[module])
                    self.assertIsNone(alias.asname)

    def test_no_two_files_import_from_each_other(self):
        asks = {name: [node.module.split(".")[1] for node in imports(tree)] for name, tree in trees()}
        while asks:
            free = [name for name in asks if not any(other in asks for other in asks[name])]
            self.assertNotEqual(free, [], asks)
            asks = {name: asks[name] for name in asks if name not in free}

    def test_every_import_is_used(self):
        for name, tree in trees():
            used = [node.id for node in ast.walk(tree) if isinstance(node, ast.Name)]
            for node in imports(tree):
                for alias in node.names:
                    self.assertIn(alias.name, used, name)

    def test_module_level(self):
        for _, tree in trees():
            for node in tree.body:
                self.assertIsInstance(node, (ast.Expr, ast.ImportFrom, ast.Assign, ast.FunctionDef, ast.ClassDef))
                if isinstance(node, ast.Expr):
                    self.assertIsInstance(node.value, ast.Constant)

    def test_names_and_builtins(self):
        for name, tree in trees():
            for node in ast.walk(tree):
                self.assertNotIsInstance(node, BARRED, name)
                if isinstance(node, ast.Name) and hasattr(builtins, node.id):
                    self.assertIn(node.id, BUILTINS, name)
                    self.assertIsInstance(node.ctx, ast.Load, name)
                if isinstance(node, ast.arg):
                    self.assertFalse(hasattr(builtins, node.arg), node.arg)

    def test_no_generator_where_a_list_is_asked_for(self):
        for name, tree in trees():
            for node in ast.walk(tree):
                if isinstance(node, ast.Call) and isinstance(node.func, ast.Name) and node.func.id in TAKE_LISTS:
                    self.assertNotIn(ast.GeneratorExp, [given.__class__ for given in node.args], name)

    def test_no_name_of_an_import_or_a_class_means_something_else(self):
        for name, tree in trees():
            taken = [node.name for node in ast.walk(tree) if isinstance(node, ast.ClassDef)]
            taken += [alias.name for node in imports(tree) for alias in node.names]
            for node in ast.walk(tree):
                if isinstance(node, ast.Name) and isinstance(node.ctx, ast.Store):
                    self.assertNotIn(node.id, taken, name)
                if isinstance(node, ast.arg):
                    self.assertNotIn(node.arg, taken, name)

    def test_methods_that_are_called(self):
        own = [function.name for _, tree in trees() for function in functions(tree)]
        for name, tree in trees():
            for node in ast.walk(tree):
                if isinstance(node, ast.Call) and isinstance(node.func, ast.Attribute):
                    self.assertIn(node.func.attr, METHODS + own, name)

    def test_methods_and_attributes_have_unlike_names(self):
        for name, tree in trees():
            for node in ast.walk(tree):
                if isinstance(node, ast.ClassDef):
                    methods = [function.name for function in functions(node)]
                    attributes = [part.attr for part in ast.walk(node)
                                  if isinstance(part, ast.Attribute) and isinstance(part.ctx, ast.Store)]
                    self.assertEqual(set(methods) & set(attributes), set(), name)
                    self.assertEqual(len(set(methods)), len(methods), name)
                    self.assertEqual(set(attributes) & set(METHODS) - {"count", "index", "find", "get", "copy"}, set())

    def test_no_name_is_a_method_here_and_an_attribute_there(self):
        nodes = [node for _, tree in trees() for node in ast.walk(tree)]
        methods = [function.name for node in nodes if isinstance(node, ast.ClassDef)
                   for function in node.body if isinstance(function, ast.FunctionDef)]
        attributes = [node.attr for node in nodes
                      if isinstance(node, ast.Attribute) and isinstance(node.ctx, ast.Store)]
        self.assertEqual(set(methods) & set(attributes), set())

    def test_properties_just_tell_what_is_kept(self):
        for name, tree in trees():
            for function in functions(tree):
                for decorator in function.decorator_list:
                    self.assertEqual(decorator.id, "property", name)
                    told = function.body[-1]
                    self.assertIsInstance(told, ast.Return, name)
                    self.assertIsInstance(told.value, ast.Attribute, name)
                    self.assertEqual(len(function.body), 2, name)

    def test_finally_just_assigns_what_was_kept(self):
        for name, tree in trees():
            for node in ast.walk(tree):
                for statement in node.finalbody if isinstance(node, ast.Try) else []:
                    self.assertIsInstance(statement, ast.Assign, name)
                    called = [part for part in ast.walk(statement) if isinstance(part, (ast.Call, ast.Subscript))]
                    self.assertEqual(called, [], name)

    def test_what_is_to_be_gone_through_at_once_is_not_stored(self):
        for name, tree in trees():
            for node in ast.walk(tree):
                if isinstance(node, (ast.Assign, ast.Return)) and isinstance(node.value, ast.Call):
                    if isinstance(node.value.func, ast.Name):
                        self.assertNotIn(node.value.func.id, UNSTORED, name)

    def test_strings(self):
        for name, tree in trees():
            for node in ast.walk(tree):
                if isinstance(node, ast.Constant):
                    self.assertNotIsInstance(node.value, (float, complex), name)
                    if isinstance(node.value, str):
                        self.assertNotIn("%", node.value, name)


if __name__ == "__main__":
    unittest.main()
