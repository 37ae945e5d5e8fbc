"""Tests of oneshard.splitting: points 7 to 9 and 34 to 38."""

import copy
import itertools
import math
import random
import unittest

from oneshard.errors import BadLength, ZeroSum
from oneshard.splitting import check_split, is_prime, least_base, partial_sums, split
from oneshard.staircases import reached

BIG = 10 ** 30 - 1


def dot(row, column):
    return sum(first * second for first, second in zip(row, column, strict=True))


def last_figure(record, base):
    """Return the last nonzero figure by the words of point 38."""
    while record % base == 0:
        record //= base
    return record % base


class PartialSums(unittest.TestCase):
    def test_order(self):
        self.assertEqual(partial_sums([]), [])
        self.assertEqual(partial_sums([5]), [5])
        self.assertEqual(partial_sums([1, 10]), [1, 10, 11])
        self.assertEqual(partial_sums([1, 10, 100]), [1, 10, 11, 100, 101, 110, 111])

    def test_entries_follow_the_binary_figures(self):
        lists = [[3], [0, 0], [2, -1], [7, 7, -14], [-1, 5, 0, 2], [BIG, -BIG, 1, -1, 10 ** 5000],
                 [-1000, 999, -998, 31, 0, -5], [1, 2, 4, 8, 16, 32], (4, -4, 4, -4, 4, -4)]
        for numbers in lists:
            before = copy.copy(numbers)
            found = partial_sums(numbers)
            self.assertEqual(numbers, before)
            self.assertIs(type(found), list)
            self.assertEqual(len(found), 2 ** len(numbers) - 1)
            for m in range(1, 2 ** len(numbers)):
                expected = sum(number for i, number in enumerate(numbers) if m & 2 ** i)
                self.assertEqual(found[m - 1], expected)

    def test_tuples(self):
        self.assertEqual(partial_sums((1, 10, 100)), partial_sums([1, 10, 100]))
        self.assertEqual(partial_sums(()), [])

    def test_results_are_new(self):
        numbers = [1, 2]
        found = partial_sums(numbers)
        found.append(9)
        found[0] = 7
        self.assertEqual([numbers, partial_sums(numbers)], [[1, 2], [1, 2, 3]])
        self.assertEqual(partial_sums(numbers=[4]), [4])


class LeastBase(unittest.TestCase):
    def check(self, numbers):
        before = copy.copy(numbers)
        base = least_base(numbers)
        self.assertEqual(numbers, before)
        sums = partial_sums(numbers)
        self.assertTrue(all(math.gcd(total, base) == 1 for total in sums))
        for smaller in range(2, base):
            self.assertTrue(any(math.gcd(total, smaller) > 1 for total in sums), smaller)
        self.assertIs(is_prime(base), True)
        return base

    def zero(self, numbers):
        with self.assertRaises(ZeroSum) as caught:
            least_base(numbers)
        self.assertIs(type(caught.exception.numbers), tuple)
        self.assertEqual(caught.exception.numbers, tuple(numbers))

    def test_no_integers(self):
        self.assertEqual([least_base([]), least_base(())], [2, 2])

    def test_one_integer(self):
        self.assertEqual([self.check([number]) for number in [1, -1, 3, 2, -2, 6, 30, 210, 2310]],
                         [2, 2, 2, 3, 3, 5, 7, 11, 13])

    def test_small_integers(self):
        for count in [2, 3]:
            for numbers in itertools.product(range(-6, 7), repeat=count):
                if 0 in partial_sums(numbers):
                    self.zero(numbers)
                else:
                    self.check(list(numbers))

    def test_six_integers(self):
        self.check([1, 2, 4, 8, 16, 32])
        self.check((-1, -2, -3, -4, -5, -6))
        self.check([1000, 1000, 1000, 1000, 1000, -999])
        self.zero([1, 2, 4, 8, 16, -31])

    def test_large_integers(self):
        self.check([BIG])
        self.check([BIG, -10 ** 20, 3])
        self.check((10 ** 5000, 10 ** 4000, -1))
        product = math.prod(number for number in range(2, 1000) if is_prime(number))
        self.assertEqual(self.check([product]), 1009)
        self.assertEqual(self.check([-product, 3 * product]), 1009)

    def test_zero_sums(self):
        self.zero([0])
        self.zero((0,))
        self.zero([5, 0])
        self.zero([2, -1, -1])
        self.zero((2, -1, -1))
        self.zero([1, 7, -7])
        self.zero([BIG, 5, -BIG])
        self.zero([3, 3, -1, -1, -1, 8])

    def test_list_stays_after_an_error(self):
        numbers = [2, -1, -1]
        self.zero(numbers)
        self.assertEqual(numbers, [2, -1, -1])

    def test_arguments_by_name(self):
        self.assertEqual(least_base(numbers=[2]), 3)


class Primes(unittest.TestCase):
    def test_small_integers(self):
        for number in range(-50, 3000):
            expected = number > 1 and all(number % factor for factor in range(2, number))
            self.assertIs(is_prime(number), expected, number)

    def test_below_two(self):
        for number in [-BIG, -7, -5, -3, -2, -1, 0, 1]:
            self.assertIs(is_prime(number), False)

    def test_products_and_squares(self):
        primes = [2, 3, 5, 7, 11, 13, 31, 97, 313, 499, 991, 997]
        for first, second in itertools.product(primes, repeat=2):
            self.assertIs(is_prime(first * second), False)
        for prime in primes:
            self.assertIs(is_prime(prime), True)

    def test_up_to_a_million(self):
        sieve = [False, False] + [True] * (10 ** 6 - 1)
        for number in range(2, 1001):
            if sieve[number]:
                sieve[number * number::number] = [False] * len(sieve[number * number::number])
        for number in [*range(0, 10 ** 6, 101), *range(10 ** 6 - 500, 10 ** 6 + 1), 994009, 999983, 999979]:
            self.assertIs(is_prime(number), sieve[number], number)

    def test_arguments_by_name(self):
        self.assertIs(is_prime(number=7), True)


class Splitting(unittest.TestCase):
    def check(self, columns):
        """Check a result of split by what point 36 says of it, and return it."""
        before = copy.deepcopy(columns)
        found = split(columns)
        self.assertEqual(columns, before)
        self.assertEqual(split(columns), found)
        numbers = reached(columns)
        if len(numbers) == len(columns):
            self.assertIsNone(found)
            return None
        self.assertIs(type(found), tuple)
        row, base = found
        self.assertIs(type(row), tuple)
        self.assertEqual([type(item) for item in row], [int] * len(columns[0]))
        products = [dot(row, column) for column in columns]
        for number, item in enumerate(products):
            self.assertEqual(item == 0, number in numbers, f"{columns}: {row}")
        others = [item for item in products if item != 0]
        self.assertNotIn(0, partial_sums(others))
        self.assertEqual(base, least_base(others))
        self.assertIs(check_split(columns, row, base), True)
        return found

    def test_nothing_to_split(self):
        for columns in [[], (), [[]], [[], []], [[0]], [[0, 0], [0, 0]], [[1], [-1]], [[1], [1], [-1]],
                        [[1, 0], [0, 1], [-1, -1], [5, 7]]]:
            self.assertIsNone(self.check(columns))

    def test_no_reachable_column(self):
        self.assertIsNotNone(self.check([[1]]))
        self.assertIsNotNone(self.check([[1], [1], [-3]]))
        self.assertIsNotNone(self.check([[1, 0], [0, 1], [-1, 1]]))
        self.assertIsNotNone(self.check([[1, 0, 0], [0, 1, 0], [0, 0, 1], [-2, -1, 0], [1, 0, -3]]))

    def test_some_reachable_columns(self):
        self.assertIsNotNone(self.check([[1, 0], [0, 5], [-1, 0]]))
        self.assertIsNotNone(self.check([[0, 0, 1], [2, 1, 0], [-2, 0, 0], [0, -1, 0]]))
        self.assertIsNotNone(self.check([[0, 0], [1, 2], [0, 0], [-1, 2]]))

    def test_sums_that_only_the_whole_row_splits(self):
        self.check([[1, 0], [-1, 1]])
        self.check([[1, 0, 0], [-1, 1, 0], [0, -1, 1]])
        self.check([[1, 1, 0], [-1, 0, 1], [0, -1, 1], [0, 1, 1]])
        self.check([[1, -2, 0, 0, 0, 0], [0, 1, -2, 0, 0, 0], [0, 0, 1, -2, 0, 0], [0, 0, 0, 1, -2, 0],
                    [0, 0, 0, 0, 1, -2], [-2, 0, 0, 0, 0, 1]])

    def test_all_small_tables(self):
        for count in range(1, 4):
            for columns in itertools.product(itertools.product([-2, -1, 0, 1], repeat=2), repeat=count):
                self.check(columns)
        for columns in itertools.product(range(-3, 4), repeat=4):
            self.check([[item] for item in columns])

    def test_larger_tables(self):
        source = random.Random(36)
        for count, length, most in itertools.product([3, 4, 5, 6], range(1, 7), [1, 2, 1000]):
            for _ in range(3):
                self.check([[source.randint(-most, most) for _ in range(length)] for _ in range(count)])

    def test_first_length_that_differs(self):
        for columns, expected in [([[1, 2], [1]], 1), ([[1], [1, 2], []], 2), ([[], [1, 2, 3], [1]], 3),
                                  ([[0], [0], [], [1, 2]], 0)]:
            before = copy.deepcopy(columns)
            with self.assertRaises(BadLength) as caught:
                split(columns)
            self.assertEqual(caught.exception.length, expected)
            self.assertEqual(columns, before)

    def test_lists_and_tuples(self):
        expected = split([[1, 0], [0, 5], [-1, 0]])
        self.assertEqual(split(((1, 0), (0, 5), (-1, 0))), expected)
        self.assertEqual(split(columns=[(1, 0), [0, 5], (-1, 0)]), expected)


class CheckingSplits(unittest.TestCase):
    def check(self, expected, columns, row, *bases):
        for base in bases:
            before = copy.deepcopy((columns, row))
            self.assertIs(check_split(columns, row, base), expected, base)
            self.assertEqual((columns, row), before)

    def test_right(self):
        self.check(True, [[1], [1], [-3]], (1,), 5, 7, 11, 25, 35)
        self.check(True, [[1], [1], [-3]], [1], 5, 7)
        self.check(True, ((1, 0), (0, 5), (-1, 0)), (0, 1), 2, 3, 4, 6, 7)
        self.check(True, [[1, 0], [0, 5], [-1, 0]], (0, -3), 2, 7)

    def test_wrong_length_of_the_row(self):
        columns = [[1, 0], [1, 0], [-3, 0]]
        self.check(True, columns, (1, 0), 5)
        for row in [(), (1,), (1, 0, 0), (1, 0, 0, 0), [1], [1, 0, 0]]:
            self.check(False, columns, row, 5)

    def test_columns_of_different_lengths(self):
        self.check(False, [[1, 0], [1], [-3, 0]], (1, 0), 5)
        self.check(False, [[1], [1, 0], [-3, 0]], (1, 0), 5)
        self.check(False, [[1, 0], [1, 0], [-3, 0, 0]], (1, 0), 5)
        self.check(False, [[1], [1, 0]], (1,), 5)

    def test_bases_below_two(self):
        self.check(False, [[1]], (1,), 1, 0, -1, -2, -3, -5, -BIG)
        self.check(True, [[1]], (1,), 2, 3, 4, BIG)

    def test_all_products_zero(self):
        self.check(False, [[1, 0], [2, 0]], (0, 1), 2, 5)
        self.check(False, [[1, 0], [2, 0]], (0, 0), 2, 5)
        self.check(False, [[0], [0]], (1,), 2, 5)
        self.check(False, [[], []], (), 2, 5)

    def test_no_columns(self):
        for row in [(), (1,), [1, 2]]:
            self.check(False, [], row, 2, 5)

    def test_one_product_that_is_not_zero(self):
        self.check(True, [[1, 0], [2, 1], [0, 0]], (0, 1), 2, 5)

    def test_common_divisors(self):
        self.check(False, [[1], [1], [-3]], (1,), 2, 3, 4, 6, 9, 10, 15)
        self.check(False, [[5]], (1,), 5, 10, 25)
        self.check(False, [[-5]], (1,), 5, 10, 25)
        self.check(False, [[2], [3], [6]], (1,), 11)
        self.check(False, [[1], [1], [1], [1], [1], [2]], (1,), 7, 14)

    def test_bases_that_are_no_primes(self):
        self.check(True, [[1], [2]], (1,), 5, 25, 35)
        self.check(False, [[1], [2]], (1,), 4, 6, 9, 10, 15)
        self.check(False, [[3], [4]], (1,), 21, 35, 77)
        self.check(True, [[3], [4]], (1,), 55)

    def test_partial_sums_of_zero(self):
        self.check(False, [[1], [-1]], (1,), 2, 3, 5, 7, 11, 997)
        self.check(False, [[1], [2], [-3], [7]], (1,), 11, 13, 997)

    def test_large_rows(self):
        self.check(True, [[1, 0], [0, 1]], (10 ** 40, 1), 7)
        self.check(False, [[1, 0], [0, 1]], (7 * 10 ** 40, 1), 7)
        self.check(True, [[1], [2]], (10 ** 5000,), 7)
        self.check(False, [[1], [2]], (3 * 10 ** 5000,), 2, 3, 5, 9)
        self.check(False, [[1, 1], [-1, 1]], (10 ** 40, 0), 7)

    def test_all_conditions_by_the_words(self):
        for row in itertools.product([-2, 0, 1, 3], repeat=2):
            for base in range(-1, 12):
                for columns in [[[1, 0], [0, 1]], [[1, 2], [3, -1], [0, 0]], [[2, 2], [5, 1], [-1, 0]]]:
                    products = [item for item in [dot(row, column) for column in columns] if item != 0]
                    sums = partial_sums(products)
                    expected = base >= 2 and sums != [] and all(math.gcd(total, base) == 1 for total in sums)
                    self.check(expected, columns, row, base)

    def test_arguments_by_name(self):
        self.assertIs(check_split(base=5, row=(1,), columns=[[1], [1], [-3]]), True)


class LastFigures(unittest.TestCase):
    def check(self, columns, most):
        """Check for all records up to a limit that those that add up to zeros have different last figures."""
        row, base = split(columns)
        split_numbers = [number for number, column in enumerate(columns) if dot(row, column) != 0]
        found = 0
        for records in itertools.product(range(1, most + 1), repeat=len(columns)):
            totals = [sum(record * item for record, item in zip(records, items)) for items in zip(*columns)]
            if not any(totals):
                found += 1
                figures = {last_figure(records[number], base) for number in split_numbers}
                self.assertGreater(len(figures), 1, f"{columns}: {records}")
        self.assertGreater(found, 0)

    def test_one_row(self):
        self.check([[1], [-2]], 300)
        self.check([[2], [-3]], 300)
        self.check([[1], [1], [-3]], 40)
        self.check([[1], [2], [-4]], 40)
        self.check([[3], [5], [-7]], 40)
        self.check([[1], [1], [1], [-5]], 16)

    def test_two_rows(self):
        self.check([[1, 0], [-2, 1], [0, -3]], 60)
        self.check([[1, 1], [1, 0], [-3, 0], [0, -2]], 16)

    def test_some_reachable_columns(self):
        self.check([[1, 0], [-1, 0], [0, 1], [0, -2]], 16)
        self.check([[1, 0], [-1, 2], [0, -1]], 60)

    def test_last_figures_of_records(self):
        self.assertEqual([last_figure(45, 3), last_figure(18, 3), last_figure(7, 3), last_figure(50, 5)], [2, 2, 1, 2])


class Example(unittest.TestCase):
    def test_sums_and_splits(self):
        self.assertEqual([partial_sums([1, 1, -3]), least_base([1, 1, -3]), split([[1], [1], [-1]])],
                         [[1, 1, 2, -3, -2, -2, -1], 5, None])

    def test_checked_splits(self):
        self.assertEqual([check_split([[1], [1], [-3]], (1,), 7), check_split([[1], [1], [-3]], (1,), 3)],
                         [True, False])

    def test_zero_sum(self):
        with self.assertRaises(ZeroSum) as caught:
            least_base([2, -1, -1])
        self.assertEqual(caught.exception.numbers, (2, -1, -1))


if __name__ == "__main__":
    unittest.main()
