"""Tests of oneshard.errors: point 8 and the interface of the errors."""

import inspect
import unittest

from oneshard import errors
from oneshard.errors import OneshardError

ARGUMENTS = {
    "BadName": ("name",),
    "DuplicateName": ("name",),
    "UnknownName": ("name",),
    "BadCount": ("count",),
    "OutOfRange": ("value",),
    "BadLine": ("number", "text"),
    "BadLength": ("length",),
    "ZeroSum": ("numbers",),
    "NotPrime": ("value",),
    "NotSure": ("kind",),
    "IsSure": ("kind",),
    "NothingToUndo": (),
}

VALUES = ["x", "", "a b\n", 0, -7, 10 ** 6000, (), (2, -1, -1), ("x", (1, 2)), None]


def class_of(name):
    return getattr(errors, name)


class Classes(unittest.TestCase):
    def test_base_class_is_a_value_error(self):
        self.assertEqual(OneshardError.__bases__, (ValueError,))

    def test_module_has_these_classes_and_no_others(self):
        found = [name for name, item in vars(errors).items() if inspect.isclass(item)]
        self.assertEqual(sorted(found), sorted([*ARGUMENTS, "OneshardError"]))

    def test_each_class_is_defined_here_and_has_its_name(self):
        for name in ARGUMENTS:
            self.assertEqual(class_of(name).__name__, name)
            self.assertEqual(class_of(name).__module__, "oneshard.errors")

    def test_each_is_a_direct_subclass(self):
        for name in ARGUMENTS:
            self.assertEqual(class_of(name).__bases__, (OneshardError,), name)

    def test_none_is_a_subclass_of_another(self):
        for name in ARGUMENTS:
            for other in ARGUMENTS:
                self.assertEqual(issubclass(class_of(name), class_of(other)), name == other)

    def test_each_is_caught_as_base_class_and_as_value_error(self):
        for name, arguments in ARGUMENTS.items():
            for caught in [OneshardError, ValueError, class_of(name)]:
                with self.assertRaises(caught):
                    raise class_of(name)(*arguments)


class Arguments(unittest.TestCase):
    def check(self, error, expected):
        for argument, value in expected.items():
            self.assertIs(getattr(error, argument), value)
        self.assertEqual(vars(error), expected)

    def test_passed_by_place(self):
        for name, arguments in ARGUMENTS.items():
            for value in VALUES:
                expected = {argument: value for argument in arguments}
                self.check(class_of(name)(*expected.values()), expected)

    def test_passed_by_name(self):
        for name, arguments in ARGUMENTS.items():
            for value in VALUES:
                expected = {argument: value for argument in arguments}
                self.check(class_of(name)(**expected), expected)

    def test_the_very_argument_is_kept(self):
        numbers = (1, -1)
        self.assertIs(errors.ZeroSum(numbers).numbers, numbers)
        row = ["x", "y"]
        self.assertIs(errors.BadLine(1, row).text, row)

    def test_bad_line_keeps_its_arguments_apart(self):
        self.check(errors.BadLine(3, "x  != y"), {"number": 3, "text": "x  != y"})
        self.check(errors.BadLine(text="x", number=1), {"number": 1, "text": "x"})
        self.check(errors.BadLine(1, text="x"), {"number": 1, "text": "x"})

    def test_arguments_are_required(self):
        for name, arguments in ARGUMENTS.items():
            if arguments:
                with self.assertRaises(TypeError):
                    class_of(name)()

    def test_attributes_survive_a_raise(self):
        try:
            raise errors.OutOfRange(-3)
        except OneshardError as error:
            self.assertEqual(error.value, -3)


if __name__ == "__main__":
    unittest.main()
