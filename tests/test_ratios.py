"""Tests of oneshard.ratios: points 2 and 25."""

import itertools
import unittest

from oneshard.errors import OutOfRange
from oneshard.ratios import common_divisor, common_multiple, lowest

BIG = 10 ** 30 - 1
SMALL = range(-12, 13)


class Raising(unittest.TestCase):
    def value(self, call, *arguments):
        with self.assertRaises(OutOfRange) as caught:
            call(*arguments)
        return caught.exception.value


class Lowest(Raising):
    def check(self, numerator, denominator):
        fraction = lowest(numerator, denominator)
        self.assertIs(type(fraction), tuple)
        first, second = fraction
        self.assertEqual(first * denominator, second * numerator)
        self.assertGreaterEqual(second, 1)
        return fraction

    def test_small_integers(self):
        for numerator, denominator in itertools.product(SMALL, SMALL):
            if denominator != 0:
                first, second = self.check(numerator, denominator)
                shared = [number for number in range(2, 13) if first % number == 0 and second % number == 0]
                self.assertEqual(shared, [])

    def test_signs(self):
        self.assertEqual([lowest(6, 4), lowest(-6, 4), lowest(6, -4), lowest(-6, -4)],
                         [(3, 2), (-3, 2), (-3, 2), (3, 2)])

    def test_zero(self):
        for denominator in [1, -1, 7, -7, BIG, -BIG]:
            self.assertEqual(lowest(0, denominator), (0, 1))

    def test_equal_numbers(self):
        for number in [1, -1, 5, -5, BIG, -BIG]:
            self.assertEqual(lowest(number, number), (1, 1))
            self.assertEqual(lowest(number, -number), (-1, 1))

    def test_integers(self):
        self.assertEqual([lowest(12, 4), lowest(-12, 4), lowest(5, 1), lowest(5, -1)],
                         [(3, 1), (-3, 1), (5, 1), (-5, 1)])

    def test_thirty_digits(self):
        self.assertEqual(lowest(6 * BIG, -4 * BIG), (-3, 2))
        self.assertEqual(lowest(BIG, BIG + 1), (BIG, BIG + 1))
        self.assertEqual(lowest(-10 ** 29, 10 ** 28), (-10, 1))
        self.check(123456789012345678901234567890, -987654321098765432109876543210)

    def test_denominator_zero(self):
        for numerator in [0, 1, -1, 5, BIG]:
            self.assertEqual(self.value(lowest, numerator, 0), 0)

    def test_arguments_by_name(self):
        self.assertEqual(lowest(denominator=4, numerator=6), (3, 2))


class CommonDivisor(unittest.TestCase):
    def test_small_integers(self):
        for first, second in itertools.product(SMALL, SMALL):
            divisors = [number for number in range(1, 13) if first % number == 0 and second % number == 0]
            expected = 0 if first == 0 and second == 0 else divisors[-1]
            self.assertEqual(common_divisor(first, second), expected)

    def test_zero(self):
        self.assertEqual([common_divisor(0, 0), common_divisor(0, 5), common_divisor(5, 0), common_divisor(0, -5),
                          common_divisor(-5, 0)], [0, 5, 5, 5, 5])

    def test_negative_integers(self):
        self.assertEqual([common_divisor(-6, 4), common_divisor(6, -4), common_divisor(-6, -4)], [2, 2, 2])

    def test_large_integers(self):
        self.assertEqual(common_divisor(6 * BIG, -4 * BIG), 2 * BIG)
        self.assertEqual(common_divisor(BIG, BIG + 1), 1)
        self.assertEqual(common_divisor(0, -BIG), BIG)

    def test_arguments_by_name(self):
        self.assertEqual(common_divisor(second=4, first=6), 2)


class CommonMultiple(Raising):
    def test_empty(self):
        self.assertEqual(common_multiple([]), 1)

    def test_small_integers(self):
        numbers = [number for number in SMALL if number != 0]
        for first, second in itertools.product(numbers, numbers):
            expected = [number for number in range(1, 145) if number % first == 0 and number % second == 0][0]
            self.assertEqual(common_multiple([first, second]), expected)

    def test_one_integer(self):
        self.assertEqual([common_multiple([7]), common_multiple([-7]), common_multiple([1]), common_multiple([-1])],
                         [7, 7, 1, 1])

    def test_several_integers(self):
        self.assertEqual(common_multiple([4, 6, 10]), 60)
        self.assertEqual(common_multiple([-4, 6, -10, 4]), 60)
        self.assertEqual(common_multiple([-1, -1, -1]), 1)
        self.assertEqual(common_multiple(list(range(1, 21))), 232792560)

    def test_large_integers(self):
        self.assertEqual(common_multiple([BIG, -BIG, 2 * BIG]), 2 * BIG)
        self.assertEqual(common_multiple([BIG, BIG + 1]), BIG * (BIG + 1))
        self.assertEqual(common_multiple([10 ** 400, -10 ** 300]), 10 ** 400)

    def test_zero_at_any_place(self):
        for numbers in [[0], [0, 5], [5, 0], [5, -4, 0], [5, 0, 4], [0, 0], [BIG, 0, -BIG]]:
            self.assertEqual(self.value(common_multiple, numbers), 0)

    def test_lists_stay_as_they_are(self):
        numbers = [4, -6, 4]
        common_multiple(numbers)
        self.assertEqual(numbers, [4, -6, 4])
        numbers = [4, 0, -6]
        self.value(common_multiple, numbers)
        self.assertEqual(numbers, [4, 0, -6])

    def test_arguments_by_name(self):
        self.assertEqual(common_multiple(numbers=[2, 3]), 6)


class Example(unittest.TestCase):
    def test_example(self):
        self.assertEqual([lowest(6, -4), lowest(0, -7), common_divisor(-6, 4), common_multiple([4, -6])],
                         [(-3, 2), (0, 1), 2, 12])


if __name__ == "__main__":
    unittest.main()
