"""Point [1], no clock, random numbers or files, and what else of the language's rules a program can see."""

import ast
import builtins
import pathlib
import unittest
import warnings

PACKAGE = pathlib.Path(__file__).resolve().parent.parent / "commonage"

LIBRARY = {
    "heapq": {"heappush", "heappop", "heapify", "heapreplace", "heappushpop"},
    "math": {"gcd", "lcm", "isqrt", "comb", "perm", "factorial"},
    "itertools": {
        "product", "combinations", "permutations", "chain", "accumulate", "pairwise", "islice", "zip_longest",
    },
    "collections": {"defaultdict"},
}
BUILTINS = set(
    "len range enumerate zip min max sum abs sorted reversed int str bool list tuple dict set isinstance ord repr "
    "any all divmod pow iter next getattr hasattr setattr Exception ValueError TypeError KeyError IndexError "
    "LookupError ZeroDivisionError ArithmeticError OverflowError RuntimeError NotImplementedError AttributeError "
    "StopIteration NotImplemented bytes map super property staticmethod classmethod object float".split()
)
STATEMENTS = (ast.Import, ast.Global, ast.AsyncFunctionDef, ast.AsyncFor, ast.AsyncWith, ast.Await)
LINES_OF_A_FUNCTION, LINES_OF_A_FILE, CHARACTERS_OF_A_LINE = 40, 399, 120


def faults_of_text(source):
    """What is wrong with the characters and sizes of a file (L10, L14)."""
    faults = []
    lines = source.split("\n")
    if len(lines) > LINES_OF_A_FILE + 1:
        faults.append("too many lines")
    for number, line in enumerate(lines, start=1):
        if len(line) > CHARACTERS_OF_A_LINE:
            faults.append(f"{number}: line too long")
        if any(not " " <= character <= "~" for character in line):
            faults.append(f"{number}: character")
    return faults


def faults_of_import(node):
    """What is wrong with a `from .. import ..` (L2, L16)."""
    if node.level or node.module is None:
        return [f"{node.lineno}: relative import"]
    names = {alias.name for alias in node.names}
    if node.module == "__future__" and names == {"annotations"}:
        return []
    is_own = node.module.startswith("commonage.") and "*" not in names
    if is_own or names <= LIBRARY.get(node.module, set()):
        return []
    return [f"{node.lineno}: import from {node.module}"]


def faults_of_node(node):
    if isinstance(node, ast.ImportFrom):
        return faults_of_import(node)
    if isinstance(node, STATEMENTS):
        return [f"{node.lineno}: {node.__class__.__name__}"]
    if isinstance(node, ast.FunctionDef) and node.end_lineno - node.lineno + 1 > LINES_OF_A_FUNCTION:
        return [f"{node.lineno}: function too long"]
    if isinstance(node, ast.Name) and hasattr(builtins, node.id) and node.id not in BUILTINS:
        return [f"{node.lineno}: {node.id}"]
    if isinstance(node, ast.Constant) and isinstance(node.value, (float, complex)):
        return [f"{node.lineno}: float"]
    if isinstance(node, ast.Constant) and isinstance(node.value, str) and "%" in node.value:
        return [f"{node.lineno}: percent sign in a string"]
    if isinstance(node, ast.Div):
        return ["division"]
    return []


def faults_of_module_level(tree):
    """What stands at module level besides a docstring, imports, functions, classes and values (L3)."""
    faults = []
    for at, node in enumerate(tree.body):
        is_docstring = at == 0 and isinstance(node, ast.Expr) and isinstance(node.value, ast.Constant)
        is_allowed = isinstance(node, (ast.ImportFrom, ast.FunctionDef, ast.ClassDef, ast.Assign))
        if not is_docstring and not is_allowed:
            faults.append(f"{node.lineno}: at module level")
    return faults


def faults_of(source):
    """The faults that this looks for in the text of a file of the package."""
    tree = ast.parse(source)
    faults = faults_of_text(source) + faults_of_module_level(tree)
    for node in ast.walk(tree):
        faults.extend(faults_of_node(node))
    return faults


class Language(unittest.TestCase):
    def test_the_package_holds_nothing_but_its_files(self):
        for path in PACKAGE.rglob("*"):
            if "__pycache__" not in path.parts:
                self.assertEqual(path.suffix, ".py", path)
        self.assertTrue((PACKAGE / "__init__.py").is_file())

    def test_files(self):
        paths = sorted(PACKAGE.rglob("*.py"))
        self.assertGreater(len(paths), 3)
        for path in paths:
            with self.subTest(path=path.name):
                self.assertEqual(faults_of(path.read_bytes().decode("ascii")), [])

    def test_python_gives_no_warning(self):
        for path in sorted(PACKAGE.rglob("*.py")):
            with warnings.catch_warnings():
                warnings.simplefilter("error")
                compile(path.read_text(encoding="ascii"), str(path), "exec")

    def test_faults_are_found(self):
        wrong = [
            "import time", "import random", "from time import time", "from random import randint",
            "from os import path", "from commonage import clocks", "from commonage.clocks import *", "from . import x",
            "from math import pi", "def f():\n    return open('x')", "def f(x):\n    return hash(x)",
            "def f(x):\n    return x / 2", "HALF = 0.5", "A = 'a%b'", "print(1)", "for k in (1, 2):\n    pass",
            "def f():\n\treturn 1", "A = '\u00e9'", "A = 1" + " " * 120, "A = 1\n" * 400,
            "def f():\n" + "    pass\n" * 40, "def f():\n    global a\n    a = 1", "def f():\n    import time",
        ]
        for source in wrong:
            with self.subTest(source=source[:40]):
                self.assertNotEqual(faults_of(source), [])

    def test_no_fault_is_found_where_none_is(self):
        right = '"""Text."""\n\nfrom commonage.clocks import covers\n\nN = 8\n\n\ndef f(x):\n    return covers(x, 0, N)\n'
        self.assertEqual(faults_of(right), [])


if __name__ == "__main__":
    unittest.main()
