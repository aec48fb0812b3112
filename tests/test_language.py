"""That the package keeps those rules of the language that a look at its files can tell."""

import ast
import builtins
import pathlib
import re
import unittest

PACKAGE = pathlib.Path(__file__).resolve().parent.parent / "wanehold"
FILES = sorted(PACKAGE.glob("*.py"))
BUILTINS = (
    "len range enumerate zip min max sum abs sorted reversed int str bool list tuple dict set isinstance ord repr any "
    "all divmod ValueError"
).split()
METHODS = (
    "append clear copy count endswith extend find get index insert isalnum isalpha isdigit islower isspace isupper items "
    "join keys ljust lower lstrip partition pop remove replace reverse rfind rjust rpartition rsplit rstrip setdefault "
    "split splitlines startswith strip update upper values zfill bit_length isascii isdecimal"
).split()
# Functions of a table, by the names to which they are assigned first.
CALLED = ("read", "answer")
BARRED = (
    "typing enum Enum Protocol ABC namedtuple dataclass overload contextmanager open input eval exec globals locals vars"
).split()


def trees():
    return [(path, ast.parse(path.read_text())) for path in FILES]


def nodes(kinds):
    """Each node of these kinds in the package, with the name of its file."""
    found = []
    for path, tree in trees():
        found += [(path.name, node) for node in ast.walk(tree) if isinstance(node, kinds)]
    return found


def bound(tree):
    """The names that a file binds at module level, imports left out."""
    names = []
    for node in tree.body:
        if isinstance(node, (ast.FunctionDef, ast.ClassDef)):
            names.append(node.name)
        elif isinstance(node, ast.Assign):
            names += [target.id for target in node.targets]
    return names


class Files(unittest.TestCase):
    def test_the_folder_contains_python_alone(self):
        for path in PACKAGE.iterdir():
            self.assertTrue(path.suffix == ".py" or path.name == "__pycache__", path)
        self.assertIn("__init__.py", [path.name for path in FILES])

    def test_sizes_and_signs(self):
        for path in FILES:
            text = path.read_text()
            self.assertLessEqual(len(text.splitlines()), 399, path)
            self.assertTrue(re.fullmatch(r"[ -~\n]*", text), path)
            self.assertTrue(all(len(line) <= 120 for line in text.splitlines()), path)

    def test_sizes_of_functions(self):
        for name, node in nodes(ast.FunctionDef):
            self.assertLessEqual(node.end_lineno - node.lineno + 1, 40, (name, node.name))

    def test_barred_words(self):
        for path in FILES:
            words = re.findall(r"\w+", path.read_text())
            self.assertEqual([word for word in BARRED if word in words], [], path)


class Statements(unittest.TestCase):
    def test_module_level(self):
        allowed = (ast.ImportFrom, ast.FunctionDef, ast.ClassDef, ast.Assign)
        for path, tree in trees():
            self.assertIsNotNone(ast.get_docstring(tree), path)
            for node in tree.body[1:]:
                self.assertIsInstance(node, allowed, (path.name, node.lineno))
            self.assertEqual(len(bound(tree)), len(set(bound(tree))), path)

    def test_imports_name_the_file_that_defines(self):
        names = {f"wanehold.{path.stem}": bound(tree) for path, tree in trees()}
        names["math"] = ["gcd"]
        for file, node in nodes((ast.Import, ast.ImportFrom)):
            self.assertIsInstance(node, ast.ImportFrom, file)
            self.assertIn(node.module, names, file)
            for alias in node.names:
                self.assertIn(alias.name, names[node.module], file)

    def test_no_floats_and_no_division(self):
        for file, node in nodes(ast.Constant):
            self.assertNotIsInstance(node.value, (float, complex), (file, node.lineno))
        self.assertEqual(nodes(ast.Div), [])

    def test_no_barred_statements(self):
        barred = (ast.Global, ast.AsyncFunctionDef, ast.Await, ast.Import)
        self.assertEqual(nodes(barred), [])
        for file, node in nodes((ast.FunctionDef, ast.ClassDef)):
            self.assertEqual(node.decorator_list, [], (file, node.name))

    def test_is_stands_with_none_and_truths(self):
        for file, node in nodes(ast.Compare):
            for sign, other in zip(node.ops, node.comparators):
                if isinstance(sign, (ast.Is, ast.IsNot)):
                    self.assertIsInstance(other, ast.Constant, (file, node.lineno))

    def test_builtins_are_those_of_the_language(self):
        own = [name for _, tree in trees() for name in bound(tree)]
        for file, node in nodes(ast.Call):
            if isinstance(node.func, ast.Name):
                self.assertIn(node.func.id, [*own, *BUILTINS, "gcd", *CALLED], (file, node.lineno))

    def test_no_name_is_that_of_a_builtin(self):
        for file, node in nodes(ast.Name):
            if isinstance(node.ctx, ast.Store):
                self.assertFalse(hasattr(builtins, node.id), (file, node.lineno, node.id))
        for file, node in nodes(ast.arg):
            self.assertFalse(hasattr(builtins, node.arg), (file, node.lineno, node.arg))

    def test_no_name_is_that_of_an_import_or_a_class(self):
        for path, tree in trees():
            imported = [alias.name for node in tree.body if isinstance(node, ast.ImportFrom) for alias in node.names]
            classes = [node.name for node in tree.body if isinstance(node, ast.ClassDef)]
            names = [node.id for node in ast.walk(tree) if isinstance(node, ast.Name) and isinstance(node.ctx, ast.Store)]
            names += [node.arg for node in ast.walk(tree) if isinstance(node, ast.arg)]
            self.assertEqual([name for name in names if name in [*imported, *classes]], [], path)

    def test_methods_of_builtin_values_are_those_of_the_language(self):
        own = [node.name for _, node in nodes(ast.FunctionDef)]
        for file, node in nodes(ast.Call):
            if isinstance(node.func, ast.Attribute):
                self.assertIn(node.func.attr, [*own, *METHODS], (file, node.lineno))

    def test_no_method_is_an_attribute(self):
        methods = [node.name for _, tree in nodes(ast.ClassDef) for node in tree.body if isinstance(node, ast.FunctionDef)]
        for file, node in nodes(ast.Attribute):
            if isinstance(node.ctx, ast.Store):
                self.assertNotIn(node.attr, methods, (file, node.lineno))

    def test_strings(self):
        for file, node in nodes(ast.Constant):
            if isinstance(node.value, str):
                self.assertNotIn("%", node.value, (file, node.lineno))

    def test_no_two_files_import_from_each_other(self):
        ahead = {}
        for path, tree in trees():
            ahead[f"wanehold.{path.stem}"] = [node.module for node in tree.body if isinstance(node, ast.ImportFrom)]
        while ahead:
            free = [name for name, others in ahead.items() if not any(other in ahead for other in others)]
            self.assertTrue(free, ahead)
            for name in free:
                del ahead[name]


if __name__ == "__main__":
    unittest.main()
