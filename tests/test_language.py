"""Some of the rules for the files of the package that can be seen in their text."""

import ast
import builtins
import os
import unittest

FOLDER = os.path.join(os.path.dirname(os.path.dirname(os.path.abspath(__file__))), "calledmidway")
LIBRARY = {
    "math": {"gcd", "lcm", "isqrt", "comb", "perm", "factorial"},
    "heapq": {"heappush", "heappop", "heapify", "heapreplace", "heappushpop"},
    "itertools": {"product", "combinations", "permutations", "chain", "accumulate", "pairwise", "islice",
                  "zip_longest"},
    "collections": {"defaultdict", "deque"},
}
BUILTINS = set("""
    len range enumerate zip min max sum abs sorted reversed int str bool bytes list tuple dict set frozenset isinstance
    ord repr any all divmod pow getattr hasattr setattr iter next map type super property staticmethod classmethod
    Exception ValueError TypeError KeyError IndexError LookupError ZeroDivisionError ArithmeticError OverflowError
    RuntimeError NotImplementedError AttributeError StopIteration NotImplemented object
""".split())
METHODS = set("""
    append clear copy count endswith extend find get index insert isalnum isalpha isdigit islower isspace isupper items
    join keys ljust lower lstrip partition pop remove replace reverse rfind rjust rpartition rsplit rstrip setdefault
    split splitlines startswith strip update upper values zfill bit_length title capitalize swapcase casefold center
    expandtabs removeprefix removesuffix rindex isascii isdecimal isnumeric istitle isidentifier isprintable
""".split())


def texts():
    found = {}
    for name in sorted(os.listdir(FOLDER)):
        if name != "__pycache__":
            with open(os.path.join(FOLDER, name), "rb") as file:
                found[name] = file.read()
    return found


class LanguageTest(unittest.TestCase):
    def setUp(self):
        self.texts = texts()
        self.trees = {name: ast.parse(text) for name, text in self.texts.items()}

    def test_the_folder_contains_plain_files_of_python_only(self):
        self.assertIn("__init__.py", self.texts)
        for name in self.texts:
            stem = name.removesuffix(".py")
            self.assertTrue(name.endswith(".py") and stem.isidentifier() and stem == stem.lower(), name)

    def test_characters_and_sizes(self):
        for name, text in self.texts.items():
            self.assertLessEqual(set(text), set(range(32, 127)) | {10}, name)
            lines = text.decode("ascii").split("\n")
            self.assertLessEqual(len(lines), 400, name)
            self.assertLessEqual(max(len(line) for line in lines), 120, name)

    def test_functions_have_at_most_forty_lines(self):
        for name, tree in self.trees.items():
            for node in ast.walk(tree):
                if isinstance(node, ast.FunctionDef):
                    self.assertLessEqual(node.end_lineno - node.lineno + 1, 40, (name, node.name))

    def test_imports(self):
        for name, tree in self.trees.items():
            for node in ast.walk(tree):
                self.assertNotIsInstance(node, ast.Import, name)
                if isinstance(node, ast.ImportFrom):
                    self.assertEqual(node.level, 0, name)
                    names = {alias.name for alias in node.names}
                    own = node.module.removeprefix("calledmidway.") + ".py"
                    if own in self.trees:
                        made = {x.name for x in self.trees[own].body if hasattr(x, "name")}
                        made |= {t.id for x in self.trees[own].body if isinstance(x, ast.Assign) for t in x.targets}
                        self.assertLessEqual(names, made, name)
                    else:
                        self.assertLessEqual(names, LIBRARY.get(node.module, set()), (name, node.module))

    def test_builtins_are_of_the_subset_and_keep_their_meaning(self):
        for name, tree in self.trees.items():
            for node in ast.walk(tree):
                # Examples that were run ahead of this leave a `_` among the builtins.
                if isinstance(node, ast.Name) and node.id != "_" and hasattr(builtins, node.id):
                    self.assertIn(node.id, BUILTINS, (name, node.lineno))
                    self.assertIsInstance(node.ctx, ast.Load, (name, node.lineno))
                if isinstance(node, ast.arg):
                    self.assertFalse(hasattr(builtins, node.arg), (name, node.arg))

    def test_names_of_imports_and_classes_have_no_second_meaning(self):
        for name, tree in self.trees.items():
            taken = {node.name for node in ast.walk(tree) if isinstance(node, ast.ClassDef)}
            for node in tree.body:
                if isinstance(node, ast.ImportFrom):
                    taken |= {alias.name for alias in node.names}
            for node in ast.walk(tree):
                if isinstance(node, ast.Name) and isinstance(node.ctx, ast.Store):
                    self.assertNotIn(node.id, taken, (name, node.lineno))
                if isinstance(node, ast.arg):
                    self.assertNotIn(node.arg, taken, (name, node.lineno))
                if isinstance(node, ast.FunctionDef):
                    self.assertNotIn(node.name, taken, (name, node.lineno))

    def test_all_that_is_imported_is_used(self):
        for name, tree in self.trees.items():
            used = {node.id for node in ast.walk(tree) if isinstance(node, ast.Name)}
            for node in tree.body:
                if isinstance(node, ast.ImportFrom):
                    self.assertLessEqual({alias.name for alias in node.names}, used, name)

    def test_no_two_files_import_from_each_other(self):
        into = {}
        for name, tree in self.trees.items():
            modules = [node.module for node in tree.body if isinstance(node, ast.ImportFrom)]
            into[name] = {module.removeprefix("calledmidway.") + ".py" for module in modules} & set(self.trees)
        while into:
            ready = [name for name in into if not into[name]]
            self.assertTrue(ready, sorted(into))
            into = {name: into[name] - set(ready) for name in into if name not in ready}

    def test_statements_and_decorators_are_of_the_subset(self):
        barred = (ast.AsyncFunctionDef, ast.AsyncFor, ast.AsyncWith, ast.Await)
        for name, tree in self.trees.items():
            for node in ast.walk(tree):
                self.assertNotIsInstance(node, barred, (name, getattr(node, "lineno", None)))
                for decorator in getattr(node, "decorator_list", []):
                    text = ast.unparse(decorator)
                    self.assertTrue(text in ("property", "classmethod") or text.endswith(".setter"), (name, text))

    def test_properties_methods_and_attributes_have_names_of_their_own(self):
        properties, methods, attributes = set(), set(), set()
        for tree in self.trees.values():
            for node in ast.walk(tree):
                if isinstance(node, ast.ClassDef):
                    for part in node.body:
                        if isinstance(part, ast.FunctionDef):
                            (properties if "property" in map(ast.unparse, part.decorator_list) or any(
                                ast.unparse(one).endswith(".setter") for one in part.decorator_list
                            ) else methods).add(part.name)
                if isinstance(node, ast.Attribute) and isinstance(node.ctx, ast.Store):
                    attributes.add(node.attr)
        self.assertEqual(properties & methods, set())
        self.assertEqual(methods & attributes, set())
        self.assertEqual(properties & attributes, set())

    def test_methods_are_own_ones_or_of_the_subset(self):
        nodes = [node for tree in self.trees.values() for node in ast.walk(tree)]
        own = {node.name for node in nodes if isinstance(node, ast.FunctionDef)}
        for name, tree in self.trees.items():
            for node in ast.walk(tree):
                if isinstance(node, ast.Call) and isinstance(node.func, ast.Attribute):
                    self.assertIn(node.func.attr, METHODS | own, (name, node.lineno))

    def test_targets_are_not_in_square_brackets(self):
        for name, tree in self.trees.items():
            for node in ast.walk(tree):
                self.assertFalse(isinstance(node, ast.List) and isinstance(node.ctx, ast.Store), name)

    def test_tables_contain_functions_of_their_own_file_only(self):
        for name, tree in self.trees.items():
            above = set()
            for node in tree.body:
                if isinstance(node, ast.FunctionDef):
                    above.add(node.name)
                elif isinstance(node, ast.Assign):
                    told = {part.id for part in ast.walk(node.value) if isinstance(part, ast.Name)}
                    self.assertLessEqual(told, above, (name, node.lineno))

    def test_no_floats_and_no_division(self):
        for name, tree in self.trees.items():
            for node in ast.walk(tree):
                self.assertNotIsInstance(node, ast.Div, name)
                if isinstance(node, ast.Constant):
                    self.assertNotIsInstance(node.value, (float, complex), name)


if __name__ == "__main__":
    unittest.main()
