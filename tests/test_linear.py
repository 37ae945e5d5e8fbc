"""Tests of oneshard.linear: what points 45 and 48 say of combinations, columns and steps of names."""

import unittest

from oneshard.forms import Form
from oneshard.linear import (combination, equation_rows, fits, grouped_names, has_inequality, name_columns, named_steps,
                             only_equations, right_steps, spread)
from oneshard.patterns import Pattern

PATTERN = Pattern.read("z x y\nx + 2*y = z + 3\nx != y\n3*x = 1 (mod 4)\nx - x + 5*z = 5*y")


class Lines(unittest.TestCase):
    def test_inequalities(self):
        self.assertIs(has_inequality(PATTERN), True)
        self.assertIs(has_inequality(PATTERN.without([1])), False)
        self.assertIs(has_inequality(Pattern(["x"])), False)

    def test_fits(self):
        self.assertEqual([fits(PATTERN.lines[0], 1), fits(PATTERN.lines[0], 2)], [False, False])
        self.assertEqual([fits(PATTERN.lines[2], 3), fits(PATTERN.lines[2], -1), fits(PATTERN.lines[2], 2)],
                         [True, True, False])
        self.assertEqual([fits(PATTERN.lines[3], -7), fits(PATTERN.lines[1], 7)], [True, False])

    def test_combination(self):
        self.assertEqual(combination(PATTERN, (1, 0, 0, 0)), Form({"x": 1, "y": 2, "z": -1}, -3))
        self.assertEqual(combination(PATTERN, (2, 9, -1, 1)), Form({"x": -1, "y": -1, "z": 3}, -5))
        self.assertEqual(combination(PATTERN, (0, 7, 0, 0)), Form({}))
        self.assertEqual(combination(Pattern(["x"]), ()), Form({}))

    def test_rows_and_columns(self):
        self.assertEqual(equation_rows(PATTERN), [(-1, 1, 2), (5, 0, -5)])
        self.assertEqual(name_columns(PATTERN), [(-1, 5), (1, 0), (2, -5)])
        self.assertEqual([equation_rows(Pattern(["x", "y"])), name_columns(Pattern(["x", "y"]))], [[], [(), ()]])

    def test_multipliers(self):
        self.assertEqual(spread(PATTERN, (4, -7)), (4, 0, 0, -7))
        self.assertEqual(spread(Pattern.read("x y\nx != y"), ()), (0,))
        self.assertEqual(spread(Pattern.read("x y\nx = 1\nx = 2\nx != y\nx = 3\nx = 4"), [5, 6, 7, 8]), (5, 6, 0, 7, 8))
        self.assertIs(only_equations(PATTERN, (4, 0, 0, -7)), True)
        for multipliers in [(4, 1, 0, -7), (4, 0, 1, -7), (4, 0, 0), (4, 0, 0, 1, 0), ()]:
            self.assertIs(only_equations(PATTERN, multipliers), False)


class Steps(unittest.TestCase):
    PATTERN = Pattern.read("z x y\nx + y = z")
    STEPS = ((("z", "x"), ()), (("y",), (("z", -1, 1),)))

    def test_names_and_numbers(self):
        self.assertEqual(named_steps(self.PATTERN, (((0, 1), ()), ((2,), ((0, -1, 1),)))), self.STEPS)
        self.assertEqual(named_steps(self.PATTERN, ()), ())
        self.assertEqual(grouped_names(self.STEPS), ["z", "x", "y"])
        self.assertEqual(grouped_names(()), [])

    def test_right_steps(self):
        self.assertIs(right_steps(self.PATTERN, self.STEPS), True)
        self.assertIs(right_steps(self.PATTERN, ()), True)
        for steps in [self.STEPS[1:], ((("z", "x", "q"), ()),), ((("z", "x"), ()), (("y",), (("q", -1, 1),))),
                      ((("z", "x"), ()), (("y",), (("z", 1, 1),)))]:
            self.assertIs(right_steps(self.PATTERN, steps), False)
        for name in ["q", "", "x1"]:
            self.assertIs(right_steps(Pattern(["x", "y", "z"]), (((name,), ()),)), False)


if __name__ == "__main__":
    unittest.main()
