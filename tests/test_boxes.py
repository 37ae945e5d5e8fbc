"""Tests of oneshard.boxes: points 21 and 24."""

import itertools
import unittest

from oneshard.boxes import box_solutions
from oneshard.errors import BadCount, OutOfRange
from oneshard.patterns import Pattern

BIG = 10 ** 30


def expected_solutions(pattern, limit):
    """Return the solutions in order, found by another way through the box."""
    combinations = itertools.product(range(1, limit + 1), repeat=len(pattern.names))
    found = [dict(zip(pattern.names, records)) for records in combinations]
    return [values for values in found if all(line.holds(values) for line in pattern.lines)]


class Solutions(unittest.TestCase):
    def check(self, text, limit):
        pattern = Pattern.read(text)
        found = list(box_solutions(pattern, limit))
        self.assertEqual(found, expected_solutions(pattern, limit))
        for values in found:
            self.assertIs(type(values), dict)
            self.assertEqual(tuple(values), pattern.names)
            self.assertIs(pattern.holds(values), True)
        self.assertEqual(pattern, Pattern.read(text))
        return found

    def test_order_and_names(self):
        found = self.check("y x\nx != y", 3)
        self.assertEqual([tuple(values.items()) for values in found],
                         [(("y", 1), ("x", 2)), (("y", 1), ("x", 3)), (("y", 2), ("x", 1)), (("y", 2), ("x", 3)),
                          (("y", 3), ("x", 1)), (("y", 3), ("x", 2))])

    def test_order_follows_the_first_name(self):
        found = self.check("b a c", 2)
        self.assertEqual([tuple(values.values()) for values in found],
                         list(itertools.product([1, 2], repeat=3)))

    def test_kinds_of_lines(self):
        self.check("x y z\nx + y = z", 9)
        self.check("z y x\nx + 2*y = z + 1\nx = y (mod 3)", 10)
        self.check("x y z\nx = 2*y (mod 5)\ny != z\nz != x", 7)
        self.check("x\nx = 3 (mod 7)", 100)
        self.check("a b c d\na + b = c + d\na != c\na != d", 6)
        self.check("a b c d e f\na + b + c = d + e + f\na != b", 4)

    def test_without_lines(self):
        self.assertEqual(self.check("x", 4), [{"x": 1}, {"x": 2}, {"x": 3}, {"x": 4}])
        self.assertEqual(len(self.check("x y z", 5)), 125)

    def test_no_solution(self):
        self.assertEqual(self.check("x y\nx = y\nx != y", 9), [])
        self.assertEqual(self.check("x\n0 = 1", 9), [])

    def test_limit_of_one(self):
        self.assertEqual(self.check("x y z", 1), [{"x": 1, "y": 1, "z": 1}])
        self.assertEqual(self.check("a b c d e f", 1), [{name: 1 for name in "abcdef"}])
        self.assertEqual(self.check("x y\nx != y", 1), [])
        self.assertEqual(self.check("x y\nx = y", 1), [{"x": 1, "y": 1}])

    def test_records_at_the_limit(self):
        self.assertEqual(self.check("x y\nx + y = 10", 5), [{"x": 5, "y": 5}])
        self.assertEqual(self.check("x y\nx + y = 10", 4), [])

    def test_exactly_4096_combinations(self):
        for count, limit in [(1, 4096), (2, 64), (3, 16), (4, 8), (6, 4)]:
            names = " ".join("abcdef"[:count])
            self.assertEqual(len(self.check(names, limit)), 4096)

    def test_nearly_4096_combinations(self):
        self.assertEqual(len(self.check("a b c d e", 5)), 3125)
        self.assertEqual(len(self.check("a b", 63)), 3969)

    def test_new_dicts(self):
        pattern = Pattern.read("x y\nx != y")
        found = list(box_solutions(pattern, 3))
        found[0]["x"] = 50
        del found[1]["y"]
        self.assertEqual(found[2:], expected_solutions(pattern, 3)[2:])
        self.assertEqual(list(box_solutions(pattern, 3)), expected_solutions(pattern, 3))

    def test_dicts_changed_during_the_iteration(self):
        pattern = Pattern.read("x y\nx != y")
        found = []
        for values in box_solutions(pattern, 3):
            found.append(dict(values))
            values["x"] = 50
            values["z"] = 1
            del values["y"]
        self.assertEqual(found, expected_solutions(pattern, 3))

    def test_two_iterations_at_a_time(self):
        pattern = Pattern.read("x y\nx + y = 5")
        pairs = [(first["x"], second["x"]) for first in box_solutions(pattern, 4)
                 for second in box_solutions(pattern, 4)]
        self.assertEqual(pairs, list(itertools.product([1, 2, 3, 4], repeat=2)))
        first, second = box_solutions(pattern, 4), box_solutions(pattern, 3)
        self.assertEqual([next(first), next(second), next(first), next(second), next(first)],
                         [{"x": 1, "y": 4}, {"x": 2, "y": 3}, {"x": 2, "y": 3}, {"x": 3, "y": 2},
                          {"x": 3, "y": 2}])
        self.assertEqual([list(first), list(second)], [[{"x": 4, "y": 1}], []])

    def test_a_generator(self):
        found = box_solutions(Pattern.read("x"), 2)
        self.assertIs(iter(found), found)
        self.assertEqual(next(found), {"x": 1})
        self.assertEqual(next(found), {"x": 2})
        self.assertRaises(StopIteration, next, found)

    def test_arguments_by_name(self):
        self.assertEqual(list(box_solutions(limit=1, pattern=Pattern.read("x"))), [{"x": 1}])


class Limits(unittest.TestCase):
    def begin(self, names, limit):
        return next(box_solutions(Pattern.read(names), limit))

    def value(self, names, limit):
        with self.assertRaises(OutOfRange) as caught:
            self.begin(names, limit)
        return caught.exception.value

    def count(self, names, limit):
        with self.assertRaises(BadCount) as caught:
            self.begin(names, limit)
        return caught.exception.count

    def test_limits_below_one(self):
        for limit in [0, -1, -2, -5000, -BIG]:
            self.assertEqual(self.value("x", limit), limit)

    def test_limit_comes_before_the_count(self):
        for limit in [-5, -65, -5000, -BIG]:
            self.assertEqual(self.value("a b", limit), limit)
            self.assertEqual(self.value("a b c d e f", limit), limit)

    def test_too_many_combinations(self):
        self.assertEqual(self.count("x", 4097), 4097)
        self.assertEqual(self.count("a b", 65), 4225)
        self.assertEqual(self.count("a b c", 17), 4913)
        self.assertEqual(self.count("a b c d", 9), 6561)
        self.assertEqual(self.count("a b c d e", 6), 7776)
        self.assertEqual(self.count("a b c d e f", 5), 15625)

    def test_far_too_many_combinations(self):
        self.assertEqual(self.count("x", BIG), BIG)
        self.assertEqual(self.count("a b c d e f", BIG), BIG ** 6)
        self.assertEqual(self.count("a b\na = 0", 10 ** 4), 10 ** 8)


class Example(unittest.TestCase):
    def test_example(self):
        self.assertEqual(list(box_solutions(Pattern.read("x y\nx + y = 4"), 3)),
                         [{"x": 1, "y": 3}, {"x": 2, "y": 2}, {"x": 3, "y": 1}])


if __name__ == "__main__":
    unittest.main()
