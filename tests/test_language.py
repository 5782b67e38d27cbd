"""The rules for the package's code that can be read off its files: form, size, imports, words."""

import ast
import os
import unittest

PACKAGE = os.path.join(os.path.dirname(os.path.abspath(__file__)), "..", "onecut")
LIBRARY = {
    "heapq": ("heappush", "heappop", "heapify", "heapreplace", "heappushpop"),
    "math": ("gcd", "lcm", "isqrt", "comb", "perm", "factorial"),
    "itertools": ("product", "combinations", "permutations"),
}
BUILTINS = """len range enumerate zip min max sum abs sorted reversed int str bool list tuple dict set isinstance ord
repr any all divmod iter next map print Exception ValueError TypeError KeyError IndexError LookupError
ZeroDivisionError ArithmeticError OverflowError RuntimeError NotImplementedError AttributeError StopIteration
NotImplemented property classmethod staticmethod super""".split()
# Of the names that L17 rules out, those that are near at hand.
BARRED = """register mro elements open input law add_note with_traceback version_info dir eval exec exit gc getattr
globals hasattr help id locals os quit setattr super type vars typing enum compile license credits""".split()
SPECIAL = ("__init__", "__eq__", "__len__", "__repr__", "__str__")
ALL_BUILTINS = dir(__builtins__) if not isinstance(__builtins__, dict) else list(__builtins__)


def sources():
    names = [name for name in sorted(os.listdir(PACKAGE)) if name != "__pycache__"]
    for name in names:
        with open(os.path.join(PACKAGE, name), encoding="utf-8") as file:
            yield name, file.read()


class Language(unittest.TestCase):
    def test_files(self):
        names = [name for name, _ in sources()]
        self.assertIn("__init__.py", names)
        for name in names:
            self.assertRegex(name, r"^[a-z0-9_]+\.py$")

    def test_characters_and_size(self):
        for name, text in sources():
            with self.subTest(name):
                self.assertTrue(all(" " <= sign <= "~" or sign == "\n" for sign in text))
                rows = text.splitlines()
                self.assertLessEqual(len(rows), 399)
                self.assertLessEqual(max(len(row) for row in rows), 120)

    def test_functions_are_small(self):
        for name, text in sources():
            for node in ast.walk(ast.parse(text)):
                if isinstance(node, ast.FunctionDef):
                    self.assertLessEqual(node.end_lineno - node.lineno + 1, 40, (name, node.name))

    def test_imports(self):
        for name, text in sources():
            for node in ast.walk(ast.parse(text)):
                self.assertNotIsInstance(node, ast.Import, name)
                if isinstance(node, ast.ImportFrom):
                    self.assertEqual(node.level, 0, name)
                    names = {alias.name for alias in node.names}
                    if node.module in LIBRARY:
                        self.assertLessEqual(names, set(LIBRARY[node.module]), name)
                    else:
                        self.assertTrue(node.module.startswith("onecut."), name)
                        self.assertNotIn("*", names, name)

    def test_only_allowed_builtins_and_no_floats(self):
        for name, text in sources():
            for node in ast.walk(ast.parse(text)):
                if isinstance(node, ast.Name) and node.id in ALL_BUILTINS:
                    self.assertIn(node.id, BUILTINS, (name, node.lineno))
                if isinstance(node, ast.Constant):
                    self.assertNotIsInstance(node.value, (float, complex), (name, node.lineno))
                    self.assertFalse(isinstance(node.value, str) and "%" in node.value, (name, node.lineno))
                self.assertNotIsInstance(node, (ast.Div, ast.Global, ast.AsyncFunctionDef), name)

    def test_what_a_class_with_its_own_equality_rules_out(self):
        # any, all, sum and sorted take lists, and lists are sorted by sorted().
        for name, text in sources():
            for node in ast.walk(ast.parse(text)):
                self.assertNotIsInstance(node, (ast.GeneratorExp, ast.Try), (name, getattr(node, "lineno", 0)))
                if isinstance(node, ast.Attribute):
                    self.assertNotEqual(node.attr, "sort", (name, node.lineno))

    def test_names(self):
        for name, text in sources():
            for node in ast.walk(ast.parse(text)):
                words = [node.id] if isinstance(node, ast.Name) else []
                words += [node.attr] if isinstance(node, ast.Attribute) else []
                words += [node.arg] if isinstance(node, ast.arg) else []
                for word in words:
                    self.assertNotIn(word, BARRED, (name, node.lineno))
                    self.assertFalse(word.startswith("__") and word not in SPECIAL, (name, node.lineno))
                if isinstance(node, ast.Name) and node.id == "_":
                    self.assertIsInstance(node.ctx, ast.Store, (name, node.lineno))


if __name__ == "__main__":
    unittest.main()
