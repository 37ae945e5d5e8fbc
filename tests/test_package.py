"""Tests of the package's files: where the interface is defined, and the plain limits of LANGUAGE.md."""

import ast
import pathlib
import unittest

PACKAGE = pathlib.Path(__file__).resolve().parent.parent / "oneshard"

# For each file, its functions and classes in the interface, with the methods of each class.
INTERFACE = {
    "errors": {
        "OneshardError": [], "BadName": [], "DuplicateName": [], "UnknownName": [], "BadCount": [],
        "OutOfRange": [], "BadLine": [], "BadLength": [], "ZeroSum": [], "NotPrime": [], "NotSure": [],
        "IsSure": [], "NothingToUndo": [],
    },
    "naming": {"valid_name": None},
    "forms": {
        "Form": ["__init__", "coefficients", "constant", "__getitem__", "__contains__", "__len__", "__eq__",
                 "__neg__", "__add__", "__radd__", "__sub__", "__rsub__", "__mul__", "__rmul__", "__call__",
                 "__str__"],
    },
}

LIBRARY = {
    "heapq": {"heappush", "heappop", "heapify", "heapreplace", "heappushpop"},
    "math": {"gcd", "lcm", "isqrt", "comb", "perm", "factorial"},
    "itertools": {"product", "combinations", "permutations", "chain", "accumulate", "pairwise", "islice",
                  "zip_longest"},
    "collections": {"defaultdict"},
}


def sources():
    return sorted(PACKAGE.glob("**/*.py"))


def tree(path):
    return ast.parse(path.read_text(encoding="utf-8"))


class Interface(unittest.TestCase):
    def test_definitions_stand_in_their_files(self):
        for name, expected in INTERFACE.items():
            found = {node.name: node for node in tree(PACKAGE / f"{name}.py").body
                     if isinstance(node, (ast.FunctionDef, ast.ClassDef))}
            for word, methods in expected.items():
                kind = ast.FunctionDef if methods is None else ast.ClassDef
                self.assertIsInstance(found.get(word), kind, word)
                defined = [node.name for node in found[word].body if isinstance(node, ast.FunctionDef)]
                for method in methods or []:
                    self.assertIn(method, defined)


class Files(unittest.TestCase):
    def test_there_are_files(self):
        self.assertIn(PACKAGE / "__init__.py", sources())

    def test_package_holds_python_files_only(self):
        for path in PACKAGE.glob("**/*"):
            if path.is_file() and "__pycache__" not in path.parts:
                self.assertEqual(path.suffix, ".py", str(path))

    def test_characters_and_lines(self):
        for path in sources():
            text = path.read_text(encoding="utf-8")
            self.assertLessEqual({ord(character) for character in text}, {10, *range(32, 127)}, str(path))
            self.assertLessEqual(len(text.splitlines()), 399, str(path))
            for line in text.splitlines():
                self.assertLessEqual(len(line), 120, f"{path}: {line}")

    def test_functions_are_short(self):
        for path in sources():
            for node in ast.walk(tree(path)):
                if isinstance(node, ast.FunctionDef):
                    self.assertLessEqual(node.end_lineno - node.lineno + 1, 40, f"{path}: {node.name}")

    def test_imports(self):
        for path in sources():
            for node in ast.walk(tree(path)):
                self.assertNotIsInstance(node, ast.Import, str(path))
                if isinstance(node, ast.ImportFrom) and not node.module.startswith("oneshard."):
                    names = {alias.name for alias in node.names}
                    self.assertLessEqual(names, LIBRARY.get(node.module, set()), str(path))


if __name__ == "__main__":
    unittest.main()
