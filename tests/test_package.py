import ast
import os
import unittest
from inspect import signature

import onlyrisers
from onlyrisers import desk
from tests.interface import INTERFACE

FOLDER = os.path.dirname(onlyrisers.__file__)
LIBRARY = ("heapq", "math", "itertools", "collections", "__future__")
SIGNS = {"\n"} | {chr(k) for k in range(32, 127)}


def files():
    return [name for name in sorted(os.listdir(FOLDER)) if name != "__pycache__"]


def text_of(name):
    with open(os.path.join(FOLDER, name), encoding="utf-8", newline="") as file:
        return file.read()


class Package(unittest.TestCase):
    """The interface's files, and what can be seen at once of the rules of the language."""

    def test_each_function_is_defined_in_its_file_with_its_arguments(self):
        for module, told in INTERFACE:
            for text in told:
                function = getattr(module, text.partition("(")[0])
                self.assertEqual(function.__module__, module.__name__)
                self.assertEqual(function.__name__ + str(signature(function)), text)

    def test_the_desk_is_made_of_nothing_and_told_lines(self):
        self.assertEqual(desk.Desk.__module__, "onlyrisers.desk")
        self.assertEqual(str(signature(desk.Desk)), "()")
        self.assertEqual(str(signature(vars(desk.Desk)["say"])), "(self, line)")

    def test_the_folder_holds_files_of_python_alone(self):
        for name in files():
            self.assertRegex(name, r"^[a-z0-9_]+\.py$")

    def test_signs_and_lengths(self):
        for name in files():
            text = text_of(name)
            self.assertLessEqual(set(text), SIGNS, name)
            self.assertLessEqual(len(text.split("\n")), 399, name)
            for line in text.split("\n"):
                self.assertLessEqual(len(line), 120, name)
            for node in ast.walk(ast.parse(text)):
                if isinstance(node, ast.FunctionDef):
                    self.assertLessEqual(node.end_lineno - node.lineno + 1, 40, node.name)

    def test_imports_are_of_the_package_or_told_ones(self):
        for name in files():
            for node in ast.walk(ast.parse(text_of(name))):
                self.assertNotIsInstance(node, ast.Import, name)
                if isinstance(node, ast.ImportFrom):
                    self.assertEqual(node.level, 0, name)
                    own = node.module.startswith("onlyrisers.")
                    self.assertTrue(own or node.module in LIBRARY, name)
