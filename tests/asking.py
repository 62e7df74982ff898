"""How the tests ask the program."""

import copy
import unittest


class Asking(unittest.TestCase):
    def same(self, told, expected):
        """Alike in kinds, too: True is no 1 here, and a list no tuple."""
        self.assertEqual(repr(told), repr(expected))

    def refused(self, error, action, *things):
        with self.subTest(action=action.__name__, things=things):
            with self.assertRaises(error) as caught:
                action(*things)
            self.assertIs(type(caught.exception), error)

    def asked_twice(self, action, *things):
        """What is handed in stays as it is, and the same asked has the same answer."""
        before = copy.deepcopy(things)
        answers = []
        for _ in range(2):
            try:
                answers.append(action(*things))
            except ValueError as why:
                answers.append(type(why))
            self.same(things, before)
        self.same(answers[0], answers[1])
