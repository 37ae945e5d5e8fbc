"""Tests of oneshard.elimination: points 2, 7 to 9 and 26 to 29."""

import copy
import itertools
import math
import random
import unittest
from fractions import Fraction

from oneshard.elimination import kernel, mixture
from oneshard.errors import BadLength

MOST = 1000


def dot(row, column):
    return sum(first * second for first, second in zip(row, column, strict=True))


def independent(rows):
    """Return how many independent rows there are, reckoned with Python's own fractions."""
    rows = [[Fraction(item) for item in row] for row in rows]
    found = 0
    for place in range(len(rows[0]) if rows else 0):
        lead = next((at for at in range(found, len(rows)) if rows[at][place] != 0), None)
        if lead is None:
            continue
        rows[found], rows[lead] = rows[lead], rows[found]
        for at in range(found + 1, len(rows)):
            factor = rows[at][place] / rows[found][place]
            rows[at] = [item - factor * other for item, other in zip(rows[at], rows[found])]
        found += 1
    return found


def tables(length, count, numbers):
    """Return every list of this many columns of this length, with items among the numbers."""
    columns = list(itertools.product(numbers, repeat=length))
    return itertools.product(columns, repeat=count)


def random_columns(source, count, length, most):
    return [[source.randint(-most, most) for _ in range(length)] for _ in range(count)]


class Mixtures(unittest.TestCase):
    def check(self, columns, target):
        """Check a result of mixture by what points 27 and 28 say of it, and return its first item."""
        before = copy.deepcopy((columns, target))
        result = mixture(columns, target)
        self.assertEqual((columns, target), before)
        self.assertEqual(mixture(columns, target), result)
        self.assertIs(type(result), tuple)
        kind, items = result
        self.assertIs(type(items), tuple)
        if kind == "mixture":
            self.check_fractions(columns, target, items)
        else:
            self.assertEqual(kind, "row")
            self.assertEqual([type(item) for item in items], [int] * len(target))
            self.assertEqual([dot(items, column) for column in columns], [0] * len(columns))
            self.assertNotEqual(dot(items, target), 0)
        return kind

    def check_fractions(self, columns, target, fractions):
        self.assertEqual(len(fractions), len(columns))
        for fraction in fractions:
            self.assertIs(type(fraction), tuple)
            numerator, denominator = fraction
            self.assertEqual([type(numerator), type(denominator)], [int, int])
            self.assertGreaterEqual(denominator, 1)
            self.assertEqual(math.gcd(numerator, denominator), 1)
        for place, item in enumerate(target):
            total = sum(Fraction(*fraction) * column[place] for fraction, column in zip(fractions, columns))
            self.assertEqual(total, item)

    def is_mixture(self, columns, target):
        self.assertEqual(self.check(columns, target), "mixture", f"{columns}, {target}")

    def is_none(self, columns, target):
        self.assertEqual(self.check(columns, target), "row", f"{columns}, {target}")

    def test_no_columns(self):
        self.is_mixture([], [])
        self.assertEqual(mixture([], [0, 0]), ("mixture", ()))
        self.is_mixture([], [0] * 6)
        self.is_none([], [1])
        self.is_none([], [0, 0, -3, 0])
        self.is_none((), (0, 1000))

    def test_columns_without_items(self):
        for count in range(7):
            self.is_mixture([[]] * count, [])

    def test_one_column(self):
        self.assertEqual(mixture([[2, 4]], [1, 2]), ("mixture", ((1, 2),)))
        self.assertEqual(mixture([[2, 4]], [-6, -12]), ("mixture", ((-3, 1),)))
        self.assertEqual(mixture([[2, 4]], [0, 0]), ("mixture", ((0, 1),)))
        self.assertEqual(mixture([[-4]], [6]), ("mixture", ((-3, 2),)))
        self.is_none([[2, 4]], [1, 3])
        self.is_none([[2, 4]], [2, 3])
        self.is_none([[0, 4]], [1, 4])

    def test_columns_of_zeros(self):
        for count in range(1, 7):
            self.is_mixture([[0, 0, 0]] * count, [0, 0, 0])
            self.is_none([[0, 0, 0]] * count, [0, 1, 0])
        self.is_mixture([[0, 0], [3, 1], [0, 0]], [6, 2])
        self.is_none([[0, 0], [3, 1], [0, 0]], [6, 3])

    def test_only_one_possible_mixture(self):
        self.assertEqual(mixture([[1, 0], [2, 4]], [2, 2]), ("mixture", ((1, 1), (1, 2))))
        self.assertEqual(mixture([[3, 1], [1, 2]], [1, 1]), ("mixture", ((1, 5), (2, 5))))
        self.assertEqual(mixture([[2, 0, 0], [0, -3, 0], [0, 0, 5]], [3, 3, 3]),
                         ("mixture", ((3, 2), (-1, 1), (3, 5))))
        self.assertEqual(mixture([[1, 1, 0], [0, 1, 1]], [4, 6, 2]), ("mixture", ((4, 1), (2, 1))))

    def test_all_small_tables(self):
        for count in range(3):
            for columns in tables(2, count, [-2, 0, 1, 3]):
                for target in itertools.product([-1, 0, 2], repeat=2):
                    kind = self.check(list(columns), target)
                    same = independent(list(columns)) == independent([*columns, target])
                    self.assertEqual(kind, "mixture" if same else "row")

    def test_depending_columns(self):
        columns = [[1, 2, 3], [2, 4, 6], [-1, 0, 1], [0, 2, 4]]
        self.is_mixture(columns, [1, 4, 7])
        self.is_mixture(columns, [0, 1, 2])
        self.is_none(columns, [1, 4, 8])
        self.is_none(columns, [1, 0, 0])

    def test_a_column_given_twice(self):
        columns = [[1, 2, 0], [3, -1, 5], [1, 2, 0], [3, -1, 5], [3, -1, 5]]
        self.is_mixture(columns, [4, 1, 5])
        self.is_mixture(columns, [1, 2, 0])
        self.is_none(columns, [4, 1, 6])

    def test_sums_parts_and_neighbours_of_columns(self):
        source = random.Random(27)
        for most in [3, MOST]:
            for count, length in itertools.product(range(1, 6), range(2, 7)):
                if count >= length:
                    continue
                columns = random_columns(source, count, length, most)
                columns = [[2 * (item // 2) for item in column] for column in columns]
                for target in [[sum(items) for items in zip(*columns)], [item // 2 for item in columns[-1]],
                               columns[0], [-item for item in columns[-1]]]:
                    self.is_mixture(columns, target)
                    kinds = []
                    for place in range(length):
                        changed = list(target)
                        changed[place] += 1
                        kinds.append(self.check(columns, changed))
                    self.assertIn("row", kinds)

    def test_six_columns_of_six_items(self):
        source = random.Random(28)
        for most in [1, 2, 10, MOST]:
            for _ in range(20):
                columns = random_columns(source, 6, 6, most)
                target = [source.randint(-most, most) for _ in range(6)]
                kind = self.check(columns, target)
                same = independent(columns) == independent([*columns, target])
                self.assertEqual(kind, "mixture" if same else "row")

    def test_five_independent_columns_of_six_items(self):
        columns = [[MOST if place == at else -MOST + at for place in range(6)] for at in range(5)]
        self.is_mixture(columns, [sum(items) for items in zip(*columns)])
        self.is_none(columns, [1, 0, 0, 0, 0, 0])

    def test_lists_and_tuples(self):
        for columns in [[[1, 0], [2, 4]], ((1, 0), (2, 4)), [(1, 0), [2, 4]]]:
            for target in [[2, 2], (2, 2)]:
                self.assertEqual(mixture(columns, target), ("mixture", ((1, 1), (1, 2))))
                self.is_none(columns[:1], target)

    def test_arguments_by_name(self):
        self.assertEqual(mixture(target=[1], columns=[[2]]), ("mixture", ((1, 2),)))

    def test_other_orders_give_the_same_kind(self):
        source = random.Random(29)
        for _ in range(30):
            columns = random_columns(source, 4, 3, 1)
            target = [source.randint(-1, 1) for _ in range(3)]
            kinds = {self.check(list(order), target) for order in itertools.permutations(columns)}
            kinds |= {self.check([*columns, column], target) for column in columns}
            self.assertEqual(len(kinds), 1)


class Lengths(unittest.TestCase):
    def length(self, call, *arguments):
        before = copy.deepcopy(arguments)
        with self.assertRaises(BadLength) as caught:
            call(*arguments)
        self.assertEqual(arguments, before)
        return caught.exception.length

    def test_columns(self):
        self.assertEqual(self.length(mixture, [[1, 2], [1]], [1, 2]), 1)
        self.assertEqual(self.length(mixture, [[1, 2], [1, 2, 3]], [1, 2]), 3)
        self.assertEqual(self.length(mixture, ((), (1,)), (1,)), 0)
        self.assertEqual(self.length(mixture, [[1]], []), 1)
        self.assertEqual(self.length(mixture, [[1, 2], [3, 4]], [1]), 2)

    def test_first_wrong_column(self):
        self.assertEqual(self.length(mixture, [[1, 2], [1, 2, 3], [1]], [1, 2]), 3)
        self.assertEqual(self.length(mixture, [[1, 2], [1], [1, 2, 3]], [1, 2]), 1)
        self.assertEqual(self.length(mixture, [[1, 2, 3], [1, 2, 3, 4], [1, 2]], [1, 2]), 3)

    def test_wrong_columns_of_zeros(self):
        self.assertEqual(self.length(mixture, [[0, 0], [0]], [0, 0]), 1)

    def test_rows(self):
        self.assertEqual(self.length(kernel, [[1, 2], [1]], 2), 1)
        self.assertEqual(self.length(kernel, [[1, 2]], 3), 2)
        self.assertEqual(self.length(kernel, [[1]], 0), 1)
        self.assertEqual(self.length(kernel, [()], 6), 0)

    def test_first_wrong_row(self):
        self.assertEqual(self.length(kernel, [[1, 2], [1, 2, 3], [1]], 2), 3)
        self.assertEqual(self.length(kernel, ([1, 2], (1,), [1, 2, 3]), 2), 1)


class Kernels(unittest.TestCase):
    def check(self, rows, width):
        """Check a result of kernel by what point 29 says of it, and return it."""
        before = copy.deepcopy(rows)
        found = kernel(rows, width)
        self.assertEqual(rows, before)
        self.assertEqual(kernel(rows, width), found)
        self.assertIs(type(found), list)
        for items in found:
            self.assertIs(type(items), tuple)
            self.assertEqual([type(item) for item in items], [int] * width)
            self.assertEqual([dot(row, items) for row in rows], [0] * len(rows))
        self.assertEqual(len(found), width - independent(rows))
        self.assertEqual(independent(found), len(found))
        return found

    def test_no_rows(self):
        for width in range(7):
            self.assertEqual(len(self.check([], width)), width)
            self.assertEqual(len(self.check((), width)), width)

    def test_width_zero(self):
        for rows in [[], [[]], [[], (), []]]:
            self.assertEqual(self.check(rows, 0), [])

    def test_width_one(self):
        self.assertEqual(self.check([[5]], 1), [])
        self.assertEqual(len(self.check([[0]], 1)), 1)

    def test_rows_of_zeros(self):
        for width, count in itertools.product(range(1, 7), repeat=2):
            self.assertEqual(len(self.check([[0] * width] * count, width)), width)

    def test_depending_rows(self):
        self.assertEqual(len(self.check([[1, 2, 3], [2, 4, 6]], 3)), 2)
        self.assertEqual(len(self.check([[1, 2, 3], [0, 1, 1], [1, 3, 4]], 3)), 1)
        self.assertEqual(len(self.check([[0, 0, 2], [0, 3, 0], [0, 5, 7]], 3)), 1)

    def test_a_row_and_its_negative(self):
        self.assertEqual(len(self.check([[1, -2, 0], [-1, 2, 0]], 3)), 2)
        self.assertEqual(len(self.check([[7, 5], [7, 5]], 2)), 1)

    def test_as_many_independent_rows_as_the_width(self):
        for width in range(1, 7):
            rows = [[1 + (place == at) for place in range(width)] for at in range(width)]
            self.assertEqual(self.check(rows, width), [])
            self.assertEqual(self.check(rows[::-1], width), [])

    def test_all_small_tables(self):
        for count in range(4):
            for rows in tables(2, count, [-2, 0, 1, 3]):
                self.check(list(rows), 2)
        for rows in tables(3, 2, [-1, 0, 2]):
            self.check(rows, 3)

    def test_larger_tables(self):
        source = random.Random(30)
        for most in [1, 2, 9, MOST]:
            for count, width in itertools.product(range(1, 7), repeat=2):
                for _ in range(4):
                    self.check(random_columns(source, count, width, most), width)

    def test_every_small_tuple_of_the_kernel_is_a_mixture(self):
        for rows in [[[1, 1, -1]], [[2, -4, 0]], [[3, 1, 2], [1, 1, 1]], [[0, 0, 0]]]:
            found = self.check(rows, 3)
            for items in itertools.product(range(-4, 5), repeat=3):
                if all(dot(row, items) == 0 for row in rows):
                    self.assertEqual(mixture(found, items)[0], "mixture")

    def test_results_are_new(self):
        rows = [[1, 1, -1]]
        found = kernel(rows, 3)
        expected = list(found)
        found[0] = None
        found.append((1, 1, 1))
        self.assertEqual(kernel(rows, 3), expected)
        found.clear()
        self.assertEqual(kernel(rows, 3), expected)

    def test_lists_and_tuples(self):
        expected = kernel([[1, 2, 3], [0, 1, 1]], 3)
        self.assertEqual(kernel(((1, 2, 3), (0, 1, 1)), 3), expected)
        self.assertEqual(kernel([(1, 2, 3), [0, 1, 1]], width=3), expected)


class Together(unittest.TestCase):
    def test_mixtures_are_what_fits_the_kernel(self):
        source = random.Random(31)
        for most, count, length in itertools.product([1, 3, MOST], range(5), range(1, 5)):
            for _ in range(5):
                columns = random_columns(source, count, length, most)
                target = [source.randint(-most, most) for _ in range(length)]
                fits = all(dot(row, target) == 0 for row in kernel(columns, length))
                self.assertEqual(mixture(columns, target)[0], "mixture" if fits else "row")


class Example(unittest.TestCase):
    def test_example(self):
        self.assertEqual([mixture([[1, 0], [2, 4]], [2, 2]), mixture([[2, 4]], [1, 3])[0],
                          len(kernel([[1, 1, -1]], 3))], [("mixture", ((1, 1), (1, 2))), "row", 2])


if __name__ == "__main__":
    unittest.main()
