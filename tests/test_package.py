"""Tests of the package's files: where the interface is defined, and the plain limits of LANGUAGE.md."""

import ast
import builtins
import pathlib
import unittest

PACKAGE = pathlib.Path(__file__).resolve().parent.parent / "oneshard"

# For each file, its functions and classes in the interface, with the methods of each class.
INTERFACE = {
    "errors": {
        "OneshardError": [], "BadName": [], "DuplicateName": [], "UnknownName": [], "BadCount": [],
        "OutOfRange": [], "BadLine": [], "BadLength": [], "ZeroSum": [], "NotPrime": [], "NotSure": [],
        "IsSure": [], "NothingToUndo": [],
    },
    "naming": {"valid_name": None},
    "forms": {
        "Form": ["__init__", "coefficients", "constant", "__getitem__", "__contains__", "__len__", "__eq__",
                 "__neg__", "__add__", "__radd__", "__sub__", "__rsub__", "__mul__", "__rmul__", "__call__",
                 "__str__"],
    },
    "lines": {
        "Equation": ["__init__", "form", "names", "holds", "__eq__", "__str__"],
        "Congruence": ["__init__", "form", "modulus", "names", "holds", "__eq__", "__str__"],
        "Unlike": ["__init__", "first", "second", "names", "holds", "__eq__", "__str__"],
    },
    "patterns": {
        "Pattern": ["__init__", "names", "lines", "read", "without", "holds", "__len__", "__contains__", "__eq__",
                    "__and__", "__str__"],
    },
    "boxes": {"box_solutions": None},
    "ratios": {"lowest": None, "common_divisor": None, "common_multiple": None},
    "elimination": {"mixture": None, "kernel": None},
    "staircases": {"check_steps": None, "climb": None, "reached": None},
    "splitting": {"partial_sums": None, "least_base": None, "is_prime": None, "split": None, "check_split": None},
    "rules": {
        "Rule": ["__init__", "one_shard", "remainder", "last_figure", "leading", "factors", "same", "__call__",
                 "__mul__", "__eq__", "__len__"],
    },
    "constants": {"constants": None, "check_rests": None},
    "checking": {"check_paper": None},
    "verdicts": {"Verdict": ["__init__", "sure"], "decide": None},
    "families": {"family_forms": None},
    "placing": {"place": None, "places": None, "splitting_rule": None},
    "shelves": {"joined": None, "one_rule": None, "least_drops": None},
    "books": {
        "Book": ["__init__", "order", "drop", "pattern", "verdict", "undo", "tried", "__getitem__", "__setitem__",
                 "__contains__", "__len__"],
    },
}

LIBRARY = {
    "heapq": {"heappush", "heappop", "heapify", "heapreplace", "heappushpop"},
    "math": {"gcd", "lcm", "isqrt", "comb", "perm", "factorial"},
    "itertools": {"product", "combinations", "permutations", "chain", "accumulate", "pairwise", "islice",
                  "zip_longest"},
    "collections": {"defaultdict"},
}


# L8 and L25: the builtins and the methods of builtin values that the package may call.
BUILTINS = {"len", "range", "enumerate", "zip", "min", "max", "sum", "abs", "sorted", "reversed", "int", "str", "bool",
            "list", "tuple", "dict", "set", "isinstance", "ord", "repr", "any", "all", "divmod"}
ERRORS = {"ValueError", "TypeError", "KeyError", "IndexError", "ZeroDivisionError", "NotImplemented"}
METHODS = {"append", "clear", "copy", "count", "endswith", "extend", "find", "get", "index", "insert", "isdigit",
           "items", "join", "keys", "partition", "pop", "remove", "replace", "reverse", "rpartition", "setdefault",
           "split", "splitlines", "startswith", "strip", "update", "values", "zfill", "bit_length"}
NODES = (ast.GeneratorExp, ast.Lambda, ast.Global, ast.AsyncFunctionDef, ast.Div, ast.Await, ast.SetComp, ast.Set)


def sources():
    return sorted(PACKAGE.glob("**/*.py"))


def tree(path):
    return ast.parse(path.read_text(encoding="utf-8"))


class Interface(unittest.TestCase):
    def test_definitions_stand_in_their_files(self):
        for name, expected in INTERFACE.items():
            found = {node.name: node for node in tree(PACKAGE / f"{name}.py").body
                     if isinstance(node, (ast.FunctionDef, ast.ClassDef))}
            for word, methods in expected.items():
                kind = ast.FunctionDef if methods is None else ast.ClassDef
                self.assertIsInstance(found.get(word), kind, word)
                defined = [node.name for node in found[word].body if isinstance(node, ast.FunctionDef)]
                for method in methods or []:
                    self.assertIn(method, defined)


class Files(unittest.TestCase):
    def test_there_are_files(self):
        self.assertIn(PACKAGE / "__init__.py", sources())

    def test_package_holds_python_files_only(self):
        for path in PACKAGE.glob("**/*"):
            if path.is_file() and "__pycache__" not in path.parts:
                self.assertEqual(path.suffix, ".py", str(path))

    def test_characters_and_lines(self):
        for path in sources():
            text = path.read_text(encoding="utf-8")
            self.assertLessEqual({ord(character) for character in text}, {10, *range(32, 127)}, str(path))
            self.assertLessEqual(len(text.splitlines()), 399, str(path))
            for line in text.splitlines():
                self.assertLessEqual(len(line), 120, f"{path}: {line}")

    def test_functions_are_short(self):
        for path in sources():
            for node in ast.walk(tree(path)):
                if isinstance(node, ast.FunctionDef):
                    self.assertLessEqual(node.end_lineno - node.lineno + 1, 40, f"{path}: {node.name}")

    def test_imports(self):
        for path in sources():
            for node in ast.walk(tree(path)):
                self.assertNotIsInstance(node, ast.Import, str(path))
                if isinstance(node, ast.ImportFrom) and not node.module.startswith("oneshard."):
                    names = {alias.name for alias in node.names}
                    self.assertLessEqual(names, LIBRARY.get(node.module, set()), str(path))

    def test_kinds_of_statements_and_expressions(self):
        for path in sources():
            for node in ast.walk(tree(path)):
                self.assertNotIsInstance(node, NODES, str(path))
                if isinstance(node, ast.Constant):
                    self.assertNotIsInstance(node.value, (float, complex), str(path))
                    self.assertNotIn("%", str(node.value), str(path))

    def test_builtins(self):
        known = set(dir(builtins))
        for path in sources():
            for node in ast.walk(tree(path)):
                if isinstance(node, ast.Name) and node.id in known:
                    self.assertIn(node.id, BUILTINS | ERRORS | {"property", "classmethod"}, str(path))
                    self.assertIsInstance(node.ctx, ast.Load, str(path))
                if isinstance(node, ast.arg):
                    self.assertNotIn(node.arg, known, str(path))

    def test_called_methods(self):
        nodes = [(path, node) for path in sources() for node in ast.walk(tree(path))]
        own = {node.name for _, node in nodes if isinstance(node, ast.FunctionDef)}
        for path, node in nodes:
            if isinstance(node, ast.Call) and isinstance(node.func, ast.Attribute):
                self.assertIn(node.func.attr, METHODS | own | {"_form"}, str(path))


if __name__ == "__main__":
    unittest.main()
