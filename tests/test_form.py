"""The form of the code: what a short look at the syntax can judge of LANGUAGE.md.

Some syntax is barred here that the rules allow; a module that needs it may have it let in.
"""

import ast
import builtins
import doctest
import os
import unittest
import warnings

FOLDER = os.path.join(os.path.dirname(os.path.dirname(os.path.abspath(__file__))), "standlots")
MODULES = sorted(name for name in os.listdir(FOLDER) if name.endswith(".py"))

BUILTINS = """len range enumerate zip min max sum abs sorted reversed int str bool bytes list tuple dict set isinstance ord
    repr any all divmod Exception ValueError TypeError KeyError IndexError LookupError ZeroDivisionError ArithmeticError
    OverflowError RuntimeError NotImplementedError AttributeError NotImplemented property""".split()
METHODS = """append clear copy count endswith extend find get index insert isalnum isalpha isdigit islower isspace isupper
    items join keys ljust lower lstrip partition pop remove replace reverse rfind rjust rpartition rsplit rstrip
    setdefault split splitlines startswith strip update upper values zfill bit_length isascii""".split()
SPECIAL = """__init__ __eq__ __len__ __iter__ __getitem__ __or__ __add__ __enter__ __exit__""".split()
UNUSED = """register mro elements open input law version_info with_traceback add_note eval exec type vars dir id
    globals locals super print map filter getattr setattr hasattr frozenset chr pow iter next""".split()
BARRED = (ast.Global, ast.AsyncFunctionDef, ast.AsyncFor, ast.AsyncWith, ast.Await, ast.GeneratorExp, ast.Lambda,
          ast.Import, ast.Div, ast.NamedExpr, ast.AnnAssign, ast.Yield, ast.YieldFrom, ast.Nonlocal, ast.Match)


def text_of(name):
    with open(os.path.join(FOLDER, name), encoding="utf-8") as file:
        return file.read()


def tree_of(name):
    return ast.parse(text_of(name), name)


def nodes_of(name, *kinds):
    return [node for node in ast.walk(tree_of(name)) if isinstance(node, kinds)]


def bound_names(name):
    """The names that a file binds in functions, and those of functions and classes and at module level."""
    found = [node.id for node in nodes_of(name, ast.Name) if isinstance(node.ctx, ast.Store)]
    found = found + [node.arg for node in nodes_of(name, ast.arg)]
    return found + [node.name for node in nodes_of(name, ast.FunctionDef, ast.ClassDef)]


class FormTest(unittest.TestCase):
    def test_the_folder_holds_python_files_alone(self):
        rest = [name for name in os.listdir(FOLDER) if name not in MODULES and name != "__pycache__"]
        self.assertEqual(rest, [])
        self.assertIn("__init__.py", MODULES)

    def test_characters_and_sizes(self):
        for name in MODULES:
            text = text_of(name)
            self.assertEqual([char for char in text if char != "\n" and not " " <= char <= "~"], [], name)
            rows = text.split("\n")
            self.assertTrue(len(rows) <= 399, name)
            self.assertEqual([row for row in rows if len(row) > 120], [], name)
            for function in nodes_of(name, ast.FunctionDef):
                self.assertTrue(function.end_lineno - function.lineno < 40, function.name)

    def test_no_warning(self):
        for name in MODULES:
            with warnings.catch_warnings():
                warnings.simplefilter("error")
                compile(text_of(name), name, "exec")

    def test_barred_syntax(self):
        for name in MODULES:
            self.assertEqual(nodes_of(name, *BARRED), [], name)
            for constant in nodes_of(name, ast.Constant):
                self.assertFalse(isinstance(constant.value, (float, complex)), name)
                self.assertFalse(isinstance(constant.value, str) and "%" in constant.value, name)

    def test_imports_name_the_file_that_defines(self):
        for name in MODULES:
            for node in nodes_of(name, ast.ImportFrom):
                self.assertEqual(node.level, 0)
                package, module = node.module.split(".")
                self.assertEqual(package, "standlots")
                body = tree_of(module + ".py").body
                defined = [item.name for item in body if isinstance(item, (ast.FunctionDef, ast.ClassDef))]
                defined += [item.targets[0].id for item in body if isinstance(item, ast.Assign)]
                for alias in node.names:
                    self.assertIn(alias.name, defined, name)
                    self.assertIsNone(alias.asname)

    def test_no_two_files_import_from_each_other(self):
        above = {name: [node.module.split(".")[1] + ".py" for node in nodes_of(name, ast.ImportFrom)] for name in MODULES}
        ready = []
        for _ in MODULES:
            ready = [name for name in MODULES if all(other in ready for other in above[name])]
        self.assertEqual(ready, MODULES)

    def test_names(self):
        for name in MODULES:
            imported = [alias.name for node in nodes_of(name, ast.ImportFrom) for alias in node.names]
            for bound in bound_names(name):
                self.assertNotIn(bound, imported, name)
                self.assertFalse(hasattr(builtins, bound) and bound not in SPECIAL, bound)
                self.assertTrue(not bound.startswith("__") or bound in SPECIAL, bound)
            used = [node.id for node in nodes_of(name, ast.Name)] + [node.attr for node in nodes_of(name, ast.Attribute)]
            self.assertEqual([word for word in used if word in UNUSED], [], name)
            outside = [word for word in used if hasattr(builtins, word) and word not in BUILTINS + ["__init__"]]
            self.assertEqual([word for word in outside if word not in METHODS], [], name)

    def test_methods_that_are_called(self):
        own = [node.name for name in MODULES for node in nodes_of(name, ast.FunctionDef)]
        for name in MODULES:
            called = [node.func.attr for node in nodes_of(name, ast.Call) if isinstance(node.func, ast.Attribute)]
            self.assertEqual([word for word in called if word not in METHODS + own], [], name)

    def test_what_len_gives_back(self):
        for name in MODULES:
            for function in nodes_of(name, ast.FunctionDef):
                if function.name != "__len__":
                    continue
                for node in ast.walk(function):
                    if isinstance(node, ast.Return):
                        self.assertTrue(ast.unparse(node.value).startswith("len("), name)
                        self.assertFalse(ast.unparse(node.value).startswith("len(range("), name)

    def test_no_decorators_and_no_code_at_module_level(self):
        kinds = (ast.FunctionDef, ast.ClassDef, ast.ImportFrom, ast.Assign)
        for name in MODULES:
            first, *rest = tree_of(name).body
            self.assertTrue(isinstance(first, ast.Expr) and isinstance(first.value, ast.Constant), name)
            self.assertEqual([node for node in rest if not isinstance(node, kinds)], [], name)
            for node in nodes_of(name, ast.FunctionDef, ast.ClassDef):
                words = [item.attr if isinstance(item, ast.Attribute) else item.id for item in node.decorator_list]
                self.assertTrue(words in ([], ["property"]), node.name)


class ReadmeTest(unittest.TestCase):
    def test_the_examples_hold(self):
        flags = doctest.IGNORE_EXCEPTION_DETAIL
        told = doctest.testfile(os.path.join(FOLDER, "..", "README.md"), module_relative=False, optionflags=flags)
        self.assertEqual(told.failed, 0)
        self.assertTrue(told.attempted > 5)


if __name__ == "__main__":
    unittest.main()
