import ast
import os
import unittest
from inspect import signature

import onlyrisers
from onlyrisers import asks, bounds, chains, counts, joins, risers, tables, texts

FOLDER = os.path.dirname(onlyrisers.__file__)
LIBRARY = ("heapq", "math", "itertools", "collections", "__future__")
SIGNS = {"\n"} | {chr(k) for k in range(32, 127)}

INTERFACE = (
    (risers, ("is_riser(thing)", "is_stand(thing, riser)", "are_apart(thing, riser)",
              "holds(riser, stand)")),
    (tables, ("table(riser)", "fall_of(text)", "riser_of(text)")),
    (texts, ("show(riser)", "read(text)")),
    (bounds, ("greatest(riser)", "by_greatest(many, high)", "mirror(riser)",
              "is_paper(thing, many)")),
    (joins, ("either(one, other)", "both(one, other)", "is_below(one, other)",
             "held_on(riser, switch)", "held_off(riser, switch)", "mattering(riser)",
             "named(riser, order)")),
    (counts, ("holds_many(riser)", "by_sizes(riser)", "decides(riser)", "all_risers(many)",
              "between(one, other)")),
    (chains, ("are_chains(thing, many)", "few_chains(many)", "fewest(many)",
              "begins(riser, chains)", "riser_by(many, chains, numbers)")),
    (asks, ("are_answers(thing, many)", "clash_of(many, answers)", "known(many, answers, stand)",
            "open_stands(many, answers)", "least_fit(many, answers)",
            "greatest_fit(many, answers)", "due_asks(riser)", "leaves_none(riser, stands)",
            "asks_for(riser)")),
)


def files():
    return [name for name in sorted(os.listdir(FOLDER)) if name != "__pycache__"]


def text_of(name):
    with open(os.path.join(FOLDER, name), encoding="utf-8", newline="") as file:
        return file.read()


class Package(unittest.TestCase):
    """The interface's files, and what can be seen at once of the rules of the language."""

    def test_each_function_is_defined_in_its_file_with_its_arguments(self):
        for module, told in INTERFACE:
            for text in told:
                function = getattr(module, text.partition("(")[0])
                self.assertEqual(function.__module__, module.__name__)
                self.assertEqual(function.__name__ + str(signature(function)), text)

    def test_the_folder_holds_files_of_python_alone(self):
        for name in files():
            self.assertRegex(name, r"^[a-z0-9_]+\.py$")

    def test_signs_and_lengths(self):
        for name in files():
            text = text_of(name)
            self.assertLessEqual(set(text), SIGNS, name)
            self.assertLessEqual(len(text.split("\n")), 399, name)
            for line in text.split("\n"):
                self.assertLessEqual(len(line), 120, name)
            for node in ast.walk(ast.parse(text)):
                if isinstance(node, ast.FunctionDef):
                    self.assertLessEqual(node.end_lineno - node.lineno + 1, 40, node.name)

    def test_imports_are_of_the_package_or_told_ones(self):
        for name in files():
            for node in ast.walk(ast.parse(text_of(name))):
                self.assertNotIsInstance(node, ast.Import, name)
                if isinstance(node, ast.ImportFrom):
                    self.assertEqual(node.level, 0, name)
                    own = node.module.startswith("onlyrisers.")
                    self.assertTrue(own or node.module in LIBRARY, name)
