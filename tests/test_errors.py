import unittest

from onlyrisers import errors

NAMES = ["NoRiser", "NoStand", "NoSwitch", "NoNumber", "NoRise", "NoChains", "NoAnswers",
         "NoWeights", "NoForm", "TooMany", "NoText", "NoLine"]


class Errors(unittest.TestCase):
    """[5] and the interface: the classes and where they stand."""

    def test_rise_error_stands_straight_under_value_error(self):
        self.assertEqual(errors.RiseError.__bases__, (ValueError,))

    def test_each_class_stands_straight_under_rise_error_alone(self):
        for name in NAMES:
            with self.subTest(name):
                self.assertEqual(getattr(errors, name).__bases__, (errors.RiseError,))

    def test_the_classes_are_unlike_and_named_so(self):
        classes = [getattr(errors, name) for name in NAMES]
        self.assertEqual(len(set(classes)), 12)
        self.assertEqual([one.__name__ for one in classes], NAMES)

    def test_there_are_no_others(self):
        told = sorted(name for name in vars(errors) if not name.startswith("_"))
        self.assertEqual(told, sorted(NAMES + ["RiseError"]))

    def test_each_is_made_of_a_text(self):
        for name in NAMES + ["RiseError"]:
            with self.subTest(name):
                made = getattr(errors, name)("why it is refused")
                self.assertEqual(str(made), "why it is refused")

    def test_each_is_defined_here(self):
        for name in NAMES + ["RiseError"]:
            with self.subTest(name):
                self.assertEqual(getattr(errors, name).__module__, "onlyrisers.errors")
