"""Tests of oneshard.constants: points 44 to 47."""

import itertools
import math
import random
import unittest

from samples import all_patterns, box, random_patterns

from oneshard.constants import check_rests, constants
from oneshard.forms import Form
from oneshard.lines import Congruence, Equation, Unlike
from oneshard.patterns import Pattern

BIG = 10 ** 30 - 1


def numbers_that_fit(pattern, numbers):
    """Return which of the integers fit, by the words of point 44."""
    claims = [(sum(line.form.coefficients.values()), line.form.constant, getattr(line, "modulus", None))
              for line in pattern.lines if line.KIND != "inequality"]
    return [number for number in numbers
            if all((total * number + constant) % modulus == 0 if modulus else total * number + constant == 0
                   for total, constant, modulus in claims)]


def total_line(total, constant, modulus=0):
    """Return a line in x and y with this total."""
    form = Form({"x": total // 2, "y": total - total // 2}, constant)
    return Congruence(form, modulus) if modulus else Equation(form)


def right_rests(pattern, multipliers, modulus):
    """Decide by the words of points 45 and 46 whether multipliers and a modulus are right."""
    if len(multipliers) != len(pattern.lines) or modulus < 2:
        return False
    total = constant = 0
    for line, multiplier in zip(pattern.lines, multipliers):
        if line.KIND == "inequality":
            if multiplier != 0:
                return False
            continue
        if line.KIND == "congruence" and (line.modulus * multiplier) % modulus != 0:
            return False
        total += multiplier * sum(line.form.coefficients.values())
        constant += multiplier * line.form.constant
    return total % modulus == 0 and constant % modulus != 0


class Finding(unittest.TestCase):
    def check(self, pattern):
        """Check a result of constants by what point 44 says of it, and return it."""
        before = str(pattern)
        found = constants(pattern)
        self.assertIs(type(found), tuple)
        self.assertEqual(constants(Pattern(list(pattern.names), list(pattern.lines))), found)
        self.assertEqual(str(pattern), before)
        getattr(self, "check_" + found[0])(pattern, *found[1:])
        return found

    def check_fixed(self, pattern, constant):
        # An equation has an absolute constant of at most 1000, so its only integer is not beyond that.
        self.assertEqual(numbers_that_fit(pattern, range(-1001, 1002)), [constant], str(pattern))

    def check_free(self, pattern, constant, step):
        self.assertGreaterEqual(step, 1)
        self.assertIn(constant, range(step))
        numbers = [*range(-100, 200), *range(constant - 3 * step, constant + 4 * step, step)]
        # If more integers fitted, the step would be a multiple of theirs.
        numbers.extend(constant + step // prime for prime in [2, 3, 5, 7, 11, 13, 17, 19, 23, 29, 31, 37])
        self.assertEqual(numbers_that_fit(pattern, numbers),
                         [number for number in numbers if (number - constant) % step == 0], str(pattern))

    def check_none(self, pattern, multipliers, modulus):
        self.assertIs(type(multipliers), tuple)
        self.assertIs(check_rests(pattern, multipliers, modulus), True)
        self.assertTrue(right_rests(pattern, multipliers, modulus), f"{pattern}: {multipliers}, {modulus}")
        self.assertIn(modulus, range(2, 10001))
        if any(line.KIND == "equation" for line in pattern.lines):
            self.assertEqual(numbers_that_fit(pattern, range(-1001, 1002)), [])
        else:
            self.assertEqual(numbers_that_fit(pattern, range(-100, 400)), [])

    def lines(self, *lines):
        return self.check(Pattern(["x", "y"], lines))

    def none(self, *lines):
        """Check that no integer fits, whatever the order of the lines and the lines beside them."""
        for order in itertools.permutations(lines):
            self.assertEqual(self.lines(*order)[0], "none")
            self.assertEqual(self.lines(Unlike("x", "y"), *order)[0], "none")
            self.assertEqual(self.lines(*order, Equation(Form({})))[0], "none")


class Results(Finding):
    def test_no_lines(self):
        self.assertEqual(self.lines(), ("free", 0, 1))
        self.assertEqual(constants(Pattern(["x"])), ("free", 0, 1))

    def test_inequalities_alone(self):
        self.assertEqual(self.lines(Unlike("x", "y")), ("free", 0, 1))
        self.assertEqual(self.lines(Unlike("x", "y"), Unlike("y", "x")), ("free", 0, 1))

    def test_one_equation(self):
        for total, constant in itertools.product(range(-9, 10), range(-20, 21)):
            found = self.lines(total_line(total, constant))
            if total == 0:
                self.assertEqual(found[0], "free" if constant == 0 else "none")
            elif constant % total == 0:
                self.assertEqual(found, ("fixed", -constant // total))
            else:
                self.assertEqual(found[0], "none")

    def test_one_congruence(self):
        for modulus in [2, 3, 4, 6, 12, 39, 40]:
            for total, constant in itertools.product([-40, -7, -6, -1, 0, 1, 2, 3, 4, 10, 12, 40],
                                                     [-1000, -7, -1, 0, 1, 2, 3, 4, 18, 1000]):
                found = self.lines(total_line(total, constant, modulus))
                divisor = math.gcd(total, modulus)
                self.assertEqual(found[0], "none" if constant % divisor else "free")
                if constant % divisor == 0:
                    self.assertEqual(found[2], modulus // divisor)

    def test_several_lines(self):
        self.assertEqual(self.lines(total_line(1, -4), total_line(-3, 12)), ("fixed", 4))
        self.assertEqual(self.lines(total_line(0, 0), total_line(3, 12), total_line(2, 8)), ("fixed", -4))
        self.assertEqual(self.lines(total_line(1, 0), Unlike("x", "y"), total_line(5, 0, 7)), ("fixed", 0))
        self.assertEqual(self.lines(total_line(1, -3, 4), total_line(2, -9, 5)), ("free", 7, 20))
        self.assertEqual(self.lines(total_line(1, -3, 4), total_line(0, 0), total_line(1, -5, 6)), ("free", 11, 12))
        self.assertEqual(self.lines(total_line(-9, 0), total_line(5, 10, 10), total_line(0, 0)), ("fixed", 0))

    def test_many_congruences(self):
        lines = [total_line(1, -number, modulus) for number, modulus in [(5, 37), (6, 38), (7, 39), (8, 35), (9, 31)]]
        found = self.lines(*lines)
        self.assertEqual(found[0], "free")
        self.assertEqual(found[2], math.lcm(37, 38, 39, 35, 31))
        self.assertEqual(self.lines(*[total_line(1, -7, modulus) for modulus in [8, 12, 18, 40, 36]]),
                         ("free", 7, math.lcm(8, 12, 18, 40, 36)))

    def test_congruences_with_common_divisors(self):
        for first, second in itertools.product([4, 6, 10, 12, 36, 40], repeat=2):
            for first_rest, second_rest in itertools.product([0, 1, 2, 5, 9], repeat=2):
                found = self.lines(total_line(1, -first_rest, first), total_line(-1, second_rest, second))
                together = (first_rest - second_rest) % math.gcd(first, second) == 0
                self.assertEqual(found[0], "free" if together else "none")

    def test_all_patterns(self):
        for kind, pattern in all_patterns():
            self.assertEqual(self.check(pattern)[0] == "none", kind == "rests")

    def test_random_patterns(self):
        results = {self.check(pattern)[0] for pattern in random_patterns(44, 300)}
        self.assertEqual(results, {"fixed", "free", "none"})

    def test_random_totals(self):
        source = random.Random(47)
        for _ in range(400):
            fitting = source.randint(-8, 8)
            lines = []
            for _ in range(source.randint(1, 5)):
                total = source.randint(-40, 40)
                constant = -total * fitting if source.random() < 0.85 else source.randint(-1000, 1000)
                lines.append(total_line(total, constant, source.choice([0, 0, *range(2, 41)])))
            self.lines(*lines)

    def test_argument_by_name(self):
        self.assertEqual(constants(pattern=Pattern(["x"])), ("free", 0, 1))


class NoIntegerFits(Finding):
    """Each sentence of point 47."""

    def test_equation_with_the_total_zero(self):
        for constant in [1, -1, 2, 6, -60, 840, -720, 1000, -1000]:
            self.none(total_line(0, constant))
            self.none(total_line(0, constant), total_line(3, -9))

    def test_total_that_does_not_divide_the_constant(self):
        for total, constant in [(2, 1), (-2, 3), (3, 1000), (40, 20), (-40, -999), (7, 6), (40, 999), (9, 3)]:
            self.none(total_line(total, constant))

    def test_two_equations_together(self):
        for first, second in [((1, -1), (1, -2)), ((2, -4), (3, -9)), ((-40, 960), (40, -1000)), ((5, 0), (-7, 7)),
                              ((39, 975), (-38, -988)), ((1, -1000), (1, 1000)), ((6, -12), (4, 8)),
                              ((1, 0), (1, 840)), ((12, 0), (10, 600))]:
            self.none(total_line(*first), total_line(*second))

    def test_congruence(self):
        for total, constant, modulus in [(0, 1, 2), (0, 39, 40), (2, 1, 2), (2, 1, 40), (-20, 10, 40), (39, 13, 39),
                                         (6, 3, 4), (10, 1000 - 1, 25), (-7, 1, 14), (40, 20, 40)]:
            self.none(total_line(total, constant, modulus))

    def test_congruence_for_the_integer_of_an_equation(self):
        for equation, congruence in [((1, -3), (1, 0, 2)), ((40, 40), (39, 0, 40)), ((-40, 0), (37, 1, 39)),
                                     ((39, -975), (40, 1, 37)), ((7, 14), (3, 5, 6)), ((1, 1000), (1, 999, 40)),
                                     ((38, 0), (2, 2, 40)), ((-3, 6), (-4, 2, 12))]:
            self.none(total_line(*equation), total_line(*congruence))

    def test_two_congruences(self):
        for first, second in [((1, 0, 2), (1, 1, 2)), ((1, -1, 4), (1, -2, 6)), ((3, 1, 40), (1, 2, 40)),
                              ((7, 2, 36), (5, 6, 40)), ((2, 2, 40), (3, 12, 36)), ((-4, 8, 12), (6, 21, 27)),
                              ((39, 1, 40), (-1, 2, 38)), ((1, 1000, 39), (1, -1000, 39)), ((20, 20, 40), (3, 6, 12)),
                              ((4, 4, 40), (5, 10, 25)), ((10, 10, 30), (5, 0, 15))]:
            self.none(total_line(*first), total_line(*second))

    def test_all_small_pairs(self):
        lines = [total_line(total, constant, modulus)
                 for total, constant, modulus in itertools.product([-3, 0, 2, 4], [-2, 0, 1, 6], [0, 2, 4, 6])]
        found = {self.check(Pattern(["x", "y"], pair))[0] for pair in itertools.product(lines, repeat=2)}
        self.assertEqual(found, {"fixed", "free", "none"})

    def test_bounds(self):
        names = ["a", "b", "c", "d", "e", "f"]
        most = dict.fromkeys(names, 20)
        least = dict.fromkeys(names, -20)
        several = [
            [Equation(Form(most, 999)), Congruence(Form(least, 7), 39)],
            [Equation(Form(most, 960)), Equation(Form({**most, "a": 19}, 952 - 119)), Congruence(Form(most, 1), 37)],
            [Equation(Form(most, -960)), Congruence(Form({**most, "f": 19}, 1), 39)],
            [Equation(Form({**least, "a": -19}, -952)), Congruence(Form({**most, "f": 19}, 1), 40)],
            [Equation(Form({**least, "a": -19}, -952)), Congruence(Form({**most, "f": 18}, 1), 39)],
            [Congruence(Form({**least, "a": -19}, -952), 40), Congruence(Form({**most, "f": 18}, 1), 36),
             Congruence(Form(least, 1000), 40), Unlike("a", "b"), Equation(Form({"a": 20, "b": -20}))],
        ]
        for lines in several:
            self.check(Pattern(names, lines))
        self.assertEqual(constants(Pattern(names, several[0]))[0], "none")
        self.assertEqual(constants(Pattern(names, [Equation(Form(most, 960))])), ("fixed", -8))


class Checking(unittest.TestCase):
    def check(self, expected, pattern, multipliers, *moduli):
        for modulus in moduli:
            before = str(pattern)
            self.assertIs(check_rests(pattern, multipliers, modulus), expected, f"{multipliers}, {modulus}")
            self.assertEqual(str(pattern), before)
            self.assertEqual(right_rests(pattern, multipliers, modulus), expected)

    def test_right(self):
        pattern = Pattern.read("x y z\n2*x + y = z + 5\nx + y = 4 (mod 6)\nx != z")
        self.check(True, pattern, (1, 0, 0), 2)
        self.check(True, pattern, (-1, 0, 0), 2)
        self.check(True, pattern, (BIG, 0, 0), 2)
        self.check(True, pattern, (1, 5, 0), 6)
        self.check(True, pattern, (10 ** 40, -10 ** 40, 0), 6)

    def test_number_of_multipliers(self):
        pattern = Pattern.read("x y\nx = y + 1\nx != y")
        self.check(True, pattern, (1, 0), 2, 3, 7)
        self.check(False, pattern, (), 2)
        self.check(False, pattern, (1,), 2)
        self.check(False, pattern, (1, 0, 0), 2)
        self.check(False, pattern, (0, 1, 0), 2)

    def test_no_lines(self):
        self.check(False, Pattern(["x"]), (), 2, 3, 1, 0)
        self.check(False, Pattern(["x"]), (1,), 2)
        self.check(False, Pattern(["x"]), (0,), 2)

    def test_multiplier_of_an_inequality(self):
        pattern = Pattern.read("x y\nx != y\nx = y + 1\ny != x")
        self.check(True, pattern, (0, 1, 0), 2)
        for multipliers in [(1, 1, 0), (0, 1, 1), (-1, 1, 0), (2, 1, 0), (0, 1, BIG), (2, 1, 2)]:
            self.check(False, pattern, multipliers, 2)

    def test_moduli_below_two(self):
        pattern = Pattern.read("x y\nx = y + 1")
        self.check(True, pattern, (1,), 2, 3, 10000, BIG)
        self.check(False, pattern, (1,), 1, 0, -1, -2, -3, -BIG)

    def test_product_of_a_congruence(self):
        pattern = Pattern.read("x y\nx + y = 1 (mod 6)")
        self.check(True, pattern, (1,), 2)
        self.check(False, pattern, (1,), 3, 4, 5, 12)
        self.check(True, pattern, (6,), 4, 12)
        self.check(True, pattern, (3,), 2)
        self.check(False, pattern, (2,), 4 * 3 * 2)
        # The modulus divides the total here, but not the product.
        self.check(False, Pattern.read("x y\nx = y + 1 (mod 6)"), (1,), 4, 5, 12)
        self.check(True, Pattern.read("x y\nx = y + 1 (mod 6)"), (1,), 2, 3, 6)
        self.check(True, Pattern.read("x y\nx = y + 1 (mod 6)"), (2,), 3, 4, 6, 12)

    def test_total(self):
        pattern = Pattern.read("x y\n3*x + 2*y = 1")
        self.check(True, pattern, (1,), 5)
        self.check(False, pattern, (1,), 2, 3, 4, 6, 10, 25)
        self.check(True, pattern, (2,), 5, 10)
        self.check(True, pattern, (-2,), 5, 10)

    def test_constant(self):
        pattern = Pattern.read("x y\nx - y = 12")
        self.check(True, pattern, (1,), 5, 7, 8, 9, 24)
        self.check(False, pattern, (1,), 2, 3, 4, 6, 12)
        self.check(False, pattern, (5,), 5)
        self.check(False, Pattern.read("x y\nx = y"), (1,), 2, 3, 5)
        self.check(False, Pattern.read("x y\nx = y"), (BIG,), 2, 3, 5)

    def test_multipliers_of_zero(self):
        for _, pattern in all_patterns():
            self.check(False, pattern, tuple(0 for _ in pattern.lines), 2, 3, 12)

    def test_combination_of_several_lines(self):
        pattern = Pattern.read("x y\n2*x = 6\n3*y = 12\nx = 0 (mod 4)")
        self.check(True, pattern, (3, -2, 0), 5, 7, 4)
        self.check(False, pattern, (3, -2, 0), 2, 3, 6)
        self.check(False, pattern, (3, -2, 1), 5, 7)
        self.check(True, pattern, (1, 0, -2), 4, 8)
        self.check(False, pattern, (1, 0, -2), 2, 16, 3)

    def test_by_the_words(self):
        source = random.Random(46)
        right = 0
        for pattern in random_patterns(46, 1500, most_lines=3):
            for _ in range(20):
                multipliers = tuple(source.randint(-3, 3) if line.KIND != "inequality" or source.random() < 0.1 else 0
                                    for line in pattern.lines)
                modulus = source.randint(0, 7)
                expected = right_rests(pattern, multipliers, modulus)
                right += expected
                self.check(expected, pattern, multipliers, modulus)
        self.assertGreater(right, 300)

    def test_no_equal_remainders(self):
        checked = 0
        for pattern in random_patterns(47, 400):
            found = constants(pattern)
            if found[0] == "none":
                self.assertEqual(numbers_that_fit(pattern, range(-100, 100)), [])
                for records in box(pattern):
                    checked += 1
                    self.assertGreater(len({record % found[2] for record in records.values()}), 1)
        self.assertGreater(checked, 300)

    def test_no_equal_remainders_for_other_multipliers(self):
        pattern = Pattern.read("x y z\n2*x + y = z + 5\nx + y = 4 (mod 6)")
        for multipliers in itertools.product(range(-6, 7), repeat=2):
            for modulus in range(2, 14):
                if check_rests(pattern, multipliers, modulus):
                    self.assertEqual(numbers_that_fit(pattern, range(-300, 300)), [])
                    for records in box(pattern):
                        self.assertGreater(len({record % modulus for record in records.values()}), 1)

    def test_arguments_by_name(self):
        self.assertIs(check_rests(modulus=2, multipliers=(1,), pattern=Pattern.read("x y\nx = y + 1")), True)


class Example(unittest.TestCase):
    def test_fixed_and_free(self):
        self.assertEqual([constants(Pattern.read("x y z\nx + y = z + 3")),
                          constants(Pattern.read("x y\n2*x = 1 (mod 3)\nx != y"))], [("fixed", 3), ("free", 2, 3)])

    def test_none(self):
        pattern = Pattern.read("x y z\n2*x + y = z + 5\nx + y = 4 (mod 6)")
        self.assertEqual([constants(pattern)[0], check_rests(pattern, (1, 0), 2), check_rests(pattern, (0, 1), 2)],
                         ["none", True, False])


if __name__ == "__main__":
    unittest.main()
