"""The rules of the language that a look at the text and its syntax tree can tell."""

import ast
import os
import unittest

ROOT = os.path.dirname(os.path.dirname(os.path.abspath(__file__)))
PACKAGE = os.path.join(ROOT, "leavefirst")
FUNCTIONS = (ast.FunctionDef, ast.AsyncFunctionDef)
LIBRARY = ("heapq", "math", "itertools", "collections", "sys")
BUILTINS = set(dir(__builtins__) if not isinstance(__builtins__, dict) else __builtins__)
ALLOWED = set(
    "len range enumerate zip min max sum abs sorted reversed int str bool bytes list tuple dict set frozenset"
    " isinstance ord repr any all divmod pow getattr hasattr setattr iter next map super"
    " property staticmethod classmethod print"
    " Exception ValueError TypeError KeyError IndexError LookupError ZeroDivisionError ArithmeticError OverflowError"
    " RuntimeError NotImplementedError AttributeError StopIteration NotImplemented".split())


def sources():
    """Return the pairs of a file's path and its text, for all files of the package."""
    found = []
    for folder, _, names in os.walk(PACKAGE):
        for name in sorted(names):
            if "__pycache__" not in folder:
                path = os.path.join(folder, name)
                with open(path, encoding="utf-8") as file:
                    found.append((os.path.relpath(path, ROOT), file.read()))
    return found


class LanguageTest(unittest.TestCase):
    def test_files_and_characters(self):
        paths = [path for path, _ in sources()]
        self.assertIn(os.path.join("leavefirst", "__init__.py"), paths)
        for path, text in sources():
            with self.subTest(path):
                self.assertTrue(path.endswith(".py") and path == path.lower())
                self.assertTrue(all(sign == "\n" or " " <= sign <= "~" for sign in text))

    def test_sizes(self):
        for path, text in sources():
            lines = text.split("\n")
            self.assertTrue(len(lines) <= 400 and max(map(len, lines)) <= 120, path)
            for node in ast.walk(ast.parse(text)):
                if isinstance(node, FUNCTIONS):
                    self.assertTrue(node.end_lineno - node.lineno < 40, f"{path}: {node.name}")

    def test_imports(self):
        for path, text in sources():
            for node in ast.walk(ast.parse(text)):
                self.assertNotIsInstance(node, ast.Import, path)
                if isinstance(node, ast.ImportFrom):
                    self.assertEqual(node.level, 0, path)
                    self.assertIn(node.module.split(".")[0], ("leavefirst",) + LIBRARY, path)

    def test_no_two_files_import_from_each_other(self):
        above = {}
        for path, text in sources():
            name = path[:-len(".py")].replace(os.sep, ".")
            above[name] = {node.module for node in ast.walk(ast.parse(text)) if isinstance(node, ast.ImportFrom)}
        for name in above:
            reached, rest = set(), [name]
            while rest:
                for module in above.get(rest.pop(), ()):
                    if module not in reached:
                        reached.add(module)
                        rest.append(module)
            self.assertNotIn(name, reached)

    def test_names_of_imports_and_classes_are_given_no_other_meaning(self):
        for path, text in sources():
            tree = ast.parse(text)
            taken = {name.name for node in ast.walk(tree) if isinstance(node, ast.ImportFrom) for name in node.names}
            taken |= {node.name for node in tree.body if isinstance(node, (ast.ClassDef, *FUNCTIONS))}
            for node in ast.walk(tree):
                if isinstance(node, ast.Name) and not isinstance(node.ctx, ast.Load):
                    self.assertNotIn(node.id, taken, f"{path}:{node.lineno}")
                elif isinstance(node, ast.arg):
                    self.assertNotIn(node.arg, taken, f"{path}:{node.lineno}")

    def test_expressions(self):
        for path, text in sources():
            for node in ast.walk(ast.parse(text)):
                where = f"{path}:{getattr(node, 'lineno', 0)}"
                self.assertNotIsInstance(node, (ast.Div, ast.Global), where)
                if isinstance(node, ast.Constant):
                    self.assertNotIsInstance(node.value, (float, complex), where)
                    self.assertFalse(isinstance(node.value, str) and "%" in node.value, where)

    def test_calls_have_no_stars(self):
        for path, text in sources():
            for node in ast.walk(ast.parse(text)):
                if isinstance(node, ast.Call):
                    where = f"{path}:{node.lineno}"
                    self.assertFalse(any(isinstance(part, ast.Starred) for part in node.args), where)
                    self.assertFalse(any(word.arg is None for word in node.keywords), where)

    def test_library_names_are_only_called(self):
        for path, text in sources():
            tree = ast.parse(text)
            taken = {name.name for node in tree.body if isinstance(node, ast.ImportFrom) and node.module in LIBRARY
                     for name in node.names}
            called = {id(node.func) for node in ast.walk(tree) if isinstance(node, ast.Call)}
            for node in ast.walk(tree):
                if isinstance(node, ast.Name) and node.id in taken:
                    self.assertIn(id(node), called, f"{path}:{node.lineno}")

    def test_sets_are_sorted_at_once(self):
        for path, text in sources():
            tree = ast.parse(text)
            at_once = {id(part) for node in ast.walk(tree) if isinstance(node, ast.Call)
                       and isinstance(node.func, ast.Name) and node.func.id in ("sorted", "len") for part in node.args}
            for node in ast.walk(tree):
                where = f"{path}:{getattr(node, 'lineno', 0)}"
                self.assertNotIsInstance(node, (ast.Set, ast.SetComp, ast.GeneratorExp, ast.Yield), where)
                if isinstance(node, ast.Call) and isinstance(node.func, ast.Name) and node.func.id == "set":
                    self.assertIn(id(node), at_once, where)

    def test_methods_and_attributes_of_one_class_have_different_names(self):
        for path, text in sources():
            for made in ast.walk(ast.parse(text)):
                if isinstance(made, ast.ClassDef):
                    methods = {node.name for node in made.body if isinstance(node, FUNCTIONS)}
                    stored = {node.attr for node in ast.walk(made) if isinstance(node, ast.Attribute)
                              and isinstance(node.ctx, ast.Store)}
                    self.assertFalse(methods & stored, f"{path}: {made.name}")

    def test_builtins_are_the_allowed_ones_and_keep_their_meaning(self):
        for path, text in sources():
            for node in ast.walk(ast.parse(text)):
                if isinstance(node, ast.Name):
                    where = f"{path}:{node.lineno}: {node.id}"
                    if isinstance(node.ctx, ast.Load):
                        self.assertTrue(node.id not in BUILTINS or node.id in ALLOWED, where)
                    else:
                        self.assertNotIn(node.id, BUILTINS, where)
                elif isinstance(node, ast.arg):
                    self.assertNotIn(node.arg, BUILTINS, f"{path}:{node.lineno}: {node.arg}")


if __name__ == "__main__":
    unittest.main()
