"""The form of the package's files: sizes, characters, imports, what stands in the folder."""

import ast
import os
import unittest

TOP = os.path.dirname(os.path.dirname(os.path.abspath(__file__)))
FOLDER = os.path.join(TOP, "roundcopies")
LIBRARY = ("heapq", "math", "itertools", "collections", "__future__")


def file_names():
    """The names of what stands in the package's folder, but for what Python itself keeps there."""
    return sorted([name for name in os.listdir(FOLDER) if name != "__pycache__"])


def text_of(name):
    with open(os.path.join(FOLDER, name), encoding="utf-8", newline="") as file:
        return file.read()


class TestForm(unittest.TestCase):
    def test_only_sources_stand_in_the_folder(self):
        self.assertIn("__init__.py", file_names())
        for name in file_names():
            self.assertRegex(name, r"^[a-z0-9_]+\.py$")

    def test_characters(self):
        for name in file_names():
            self.assertTrue(all([sign == "\n" or " " <= sign <= "~" for sign in text_of(name)]), name)

    def test_sizes(self):
        for name in file_names():
            lines = text_of(name).split("\n")
            self.assertLessEqual(len(lines), 399, name)
            self.assertLessEqual(max([len(line) for line in lines]), 120, name)
            for node in ast.walk(ast.parse(text_of(name))):
                if isinstance(node, ast.FunctionDef):
                    self.assertLessEqual(node.end_lineno - node.lineno + 1, 40, f"{name} {node.name}")

    def test_imports(self):
        for name in file_names():
            for node in ast.walk(ast.parse(text_of(name))):
                self.assertNotIsInstance(node, ast.Import, name)
                if isinstance(node, ast.ImportFrom):
                    self.assertEqual(node.level, 0)
                    self.assertTrue(node.module.startswith("roundcopies.") or node.module in LIBRARY, name)


if __name__ == "__main__":
    unittest.main()
