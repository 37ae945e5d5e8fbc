"""Tests of oneshard.columns: the parts that points 26 to 38 and 53 have in common."""

import unittest

from oneshard.columns import check_lengths, common_length, dot_product, harmless_factor, shortened
from oneshard.errors import BadLength


class Lengths(unittest.TestCase):
    def length(self, call, *arguments):
        with self.assertRaises(BadLength) as caught:
            call(*arguments)
        return caught.exception.length

    def test_right_lengths(self):
        self.assertIsNone(check_lengths([], 3))
        self.assertIsNone(check_lengths([[1, 2], (3, 4)], 2))
        self.assertEqual([common_length([]), common_length(()), common_length([[]]), common_length([[7]]),
                          common_length([[1, 2], (3, 4)])], [0, 0, 0, 1, 2])

    def test_first_wrong_length(self):
        self.assertEqual(self.length(check_lengths, [[1, 2], [1], [1, 2, 3]], 2), 1)
        self.assertEqual(self.length(check_lengths, [[1, 2], [1, 2, 3], [1]], 2), 3)
        self.assertEqual(self.length(common_length, [[1], [1, 2, 3], []]), 3)
        self.assertEqual(self.length(common_length, [[], [1]]), 1)


class Rows(unittest.TestCase):
    def test_products(self):
        self.assertEqual([dot_product([1, 2, 3], (4, -5, 6)), dot_product((), ())], [12, 0])

    def test_shortened(self):
        self.assertEqual([shortened([4, -6, 0]), shortened((0, -5)), shortened([0, 0]), shortened([]),
                          shortened([3, 2])], [(2, -3, 0), (0, -1), (0, 0), (), (3, 2)])

    def test_harmless_factors(self):
        self.assertEqual([harmless_factor([1, -1], [0, 1]), harmless_factor([0], [1]), harmless_factor([0], [0]),
                          harmless_factor([], []), harmless_factor([0, -1, -2, 5], [1, 1, 1, 0]),
                          harmless_factor((3, -2, 0), (-3, 1, -1))], [0, 1, 0, 0, 3, 3])


if __name__ == "__main__":
    unittest.main()
