"""Tests of oneshard.residues: the remainders behind points 44, 47 and 61."""

import math
import unittest

from oneshard.residues import divisor_factor, least_stranger


class Residues(unittest.TestCase):
    def test_divisor_factor(self):
        for number in range(-60, 61):
            for modulus in range(1, 45):
                factor = divisor_factor(number, modulus)
                self.assertEqual((factor * number - math.gcd(number, modulus)) % modulus, 0)
        for number, modulus in [(10 ** 40, 9973), (-10 ** 40 - 7, 2), (3 ** 500, 2 ** 300)]:
            self.assertEqual((divisor_factor(number, modulus) * number - math.gcd(number, modulus)) % modulus, 0)

    def test_modulus_zero(self):
        for number in [-40, -1, 1, 2, 10 ** 30]:
            self.assertEqual(divisor_factor(number, 0) * number, abs(number))

    def test_least_stranger(self):
        self.assertEqual([least_stranger(number) for number in [1, -1, 2, 3, 6, -12, 60, 840, 2 * 3 * 5 * 7 * 11]],
                         [2, 2, 3, 2, 4, 5, 7, 9, 4])


if __name__ == "__main__":
    unittest.main()
