"""Tests of oneshard.rules: points 5, 7, 8 and 39 to 43."""

import copy
import itertools
import math
import random
import unittest

from samples import last_figure, raised

from oneshard.errors import BadCount, NotPrime, OutOfRange
from oneshard.forms import Form
from oneshard.rules import Rule

BIG = 10 ** 30 - 1
SHIFTS = [0, 1, -1, 7, -7, 10000, -10000, BIG, -BIG]
PRIMES = [2, 3, 5, 7, 11, 97, 101, 9949, 9967, 9973]


def expected_entry(factor, record):
    """Return the entry of a factor by the words of point 41."""
    kind, first, *others, shift = factor
    if record <= shift:
        return ("own", record)
    number = record - shift
    if kind == "remainder":
        return ("rest", number - number // first * first)
    if kind == "last figure":
        return ("figure", last_figure(number, first))
    figures = bin(number)[2:]
    if len(figures) < first:
        return ("own", record)
    return ("leading", int(figures[:first], 2), len(figures) % others[0])


class Building(unittest.TestCase):
    def test_one_shard(self):
        self.assertEqual(Rule.one_shard().factors, ())

    def test_remainder(self):
        for modulus in [1, 2, 3, 40, 9999, 10000]:
            self.assertEqual(Rule.remainder(modulus).factors, (("remainder", modulus, 0),))
            for shift in SHIFTS:
                self.assertEqual(Rule.remainder(modulus, shift=shift).factors, (("remainder", modulus, shift),))
        self.assertEqual(Rule.remainder(modulus=5, shift=2).factors, (("remainder", 5, 2),))

    def test_last_figure(self):
        for prime in PRIMES:
            self.assertEqual(Rule.last_figure(prime).factors, (("last figure", prime, 0),))
            for shift in SHIFTS:
                self.assertEqual(Rule.last_figure(prime, shift=shift).factors, (("last figure", prime, shift),))
        self.assertEqual(Rule.last_figure(prime=5, shift=2).factors, (("last figure", 5, 2),))

    def test_leading(self):
        for bits in range(1, 9):
            self.assertEqual(Rule.leading(bits).factors, (("leading", bits, 1, 0),))
            for modulus in range(1, 7):
                self.assertEqual(Rule.leading(bits, modulus).factors, (("leading", bits, modulus, 0),))
                self.assertEqual(Rule.leading(bits, modulus=modulus).factors, (("leading", bits, modulus, 0),))
                for shift in SHIFTS:
                    self.assertEqual(Rule.leading(bits, modulus, shift=shift).factors,
                                     (("leading", bits, modulus, shift),))
        self.assertEqual(Rule.leading(4, shift=-3).factors, (("leading", 4, 1, -3),))
        self.assertEqual(Rule.leading(bits=4, modulus=2, shift=-3).factors, (("leading", 4, 2, -3),))

    def test_shift_is_passed_by_keyword(self):
        for call in [lambda: Rule.remainder(3, 1), lambda: Rule.last_figure(3, 1), lambda: Rule.leading(3, 1, 1)]:
            self.assertRaises(TypeError, call)

    def test_results_are_rules(self):
        for rule in [Rule.one_shard(), Rule.remainder(1), Rule.last_figure(2), Rule.leading(1)]:
            self.assertIs(type(rule), Rule)
            self.assertIs(type(rule.factors), tuple)
            self.assertTrue(all(type(factor) is tuple for factor in rule.factors))


class WrongRules(unittest.TestCase):
    def value(self, call, *arguments, **more):
        return raised(self, OutOfRange, "value", call, *arguments, **more)

    def test_moduli_below_one(self):
        for modulus in [0, -1, -2, -10000, -BIG]:
            self.assertEqual(self.value(Rule.remainder, modulus), modulus)
            self.assertEqual(self.value(Rule.remainder, modulus, shift=5), modulus)

    def test_primes(self):
        for number in range(-20, 3000):
            if number > 1 and all(number % factor for factor in range(2, math.isqrt(number) + 1)):
                self.assertEqual(Rule.last_figure(number).factors[0][1], number)
            else:
                self.assertEqual(raised(self, NotPrime, "value", Rule.last_figure, number), number)

    def test_no_primes(self):
        numbers = [0, 1, -1, -2, -3, -7, -BIG, 4, 9, 25, 49, 97 ** 2, 89 * 97, 97 * 101, 61 * 157, 9999, 10000]
        for number in numbers:
            for shift in [0, 3]:
                self.assertEqual(raised(self, NotPrime, "value", Rule.last_figure, number, shift=shift), number)

    def test_bits(self):
        for bits in [0, 9, 10, -1, 1000]:
            self.assertEqual(self.value(Rule.leading, bits), bits)
            self.assertEqual(self.value(Rule.leading, bits, 6, shift=1), bits)

    def test_leading_moduli(self):
        for modulus in [0, 7, 8, -1, 1000]:
            for bits in [1, 8]:
                self.assertEqual(self.value(Rule.leading, bits, modulus), modulus)
                self.assertEqual(self.value(Rule.leading, bits, modulus=modulus, shift=1), modulus)

    def test_bits_count_first(self):
        for bits, modulus in itertools.product([0, 9, -3], [0, 7, -4]):
            self.assertEqual(self.value(Rule.leading, bits, modulus), bits)


class Labels(unittest.TestCase):
    def check(self, rule, records):
        for record in records:
            before = rule.factors
            label = rule(record)
            self.assertEqual(label, tuple(expected_entry(factor, record) for factor in rule.factors))
            self.assertIs(type(label), tuple)
            self.assertTrue(all(type(entry) is tuple for entry in label))
            self.assertEqual(rule.factors, before)

    def around(self, shift):
        """Return records around a shift, far below and far above it."""
        near = [shift + step for step in range(-40, 300)]
        return [record for record in [*near, 1, 2, 3, 10 ** 12, 3 * BIG + 1, 10 ** 60] if record >= 1]

    def test_written_labels(self):
        self.assertEqual(Rule.remainder(5)(13), (("rest", 3),))
        self.assertEqual(Rule.remainder(5, shift=4)(13), (("rest", 4),))
        self.assertEqual(Rule.remainder(5, shift=-4)(13), (("rest", 2),))
        self.assertEqual(Rule.remainder(1)(13), (("rest", 0),))
        self.assertEqual(Rule.last_figure(3)(45), (("figure", 2),))
        self.assertEqual(Rule.last_figure(3, shift=-9)(45), (("figure", 2),))
        self.assertEqual(Rule.last_figure(2)(48), (("figure", 1),))
        self.assertEqual(Rule.leading(3)(45), (("leading", 5, 0),))
        self.assertEqual(Rule.leading(3, 4)(45), (("leading", 5, 2),))
        self.assertEqual(Rule.leading(6, 4)(45), (("leading", 45, 2),))
        self.assertEqual(Rule.leading(7, 4)(45), (("own", 45),))
        self.assertEqual(Rule.leading(3, 4, shift=40)(45), (("leading", 5, 3),))
        self.assertEqual(Rule.leading(3, 4, shift=42)(45), (("own", 45),))

    def test_records_below_one(self):
        rules = [Rule.one_shard(), Rule.remainder(3), Rule.last_figure(3), Rule.leading(3),
                 Rule.remainder(3, shift=-10), Rule.last_figure(3, shift=10), Rule.leading(3, 2, shift=-10),
                 Rule.remainder(3) * Rule.leading(2)]
        for rule, record in itertools.product(rules, [0, -1, -2, -10, -BIG]):
            self.assertEqual(raised(self, OutOfRange, "value", rule, record), record)

    def test_no_factor(self):
        for record in [1, 2, BIG, 10 ** 5000]:
            self.assertEqual(Rule.one_shard()(record), ())

    def test_record_at_the_shift(self):
        for shift in [1, 2, 7, 10000, BIG]:
            for rule in [Rule.remainder(3, shift=shift), Rule.last_figure(3, shift=shift),
                         Rule.leading(1, shift=shift)]:
                self.assertEqual(rule(shift), (("own", shift),))
                self.assertEqual(rule(1), (("own", 1),))
                if shift > 1:
                    self.assertEqual(rule(shift - 1), (("own", shift - 1),))
            self.assertEqual(Rule.remainder(3, shift=shift)(shift + 1), (("rest", 1),))
            self.assertEqual(Rule.last_figure(3, shift=shift)(shift + 1), (("figure", 1),))
            self.assertEqual(Rule.leading(1, 3, shift=shift)(shift + 1), (("leading", 1, 1),))
            self.assertEqual(Rule.leading(2, 3, shift=shift)(shift + 1), (("own", shift + 1),))

    def test_shifts_of_zero_and_below(self):
        for shift in [0, -1, -5, -BIG]:
            for record in [1, 2, 100]:
                for rule in [Rule.remainder(3, shift=shift), Rule.last_figure(3, shift=shift)]:
                    self.assertNotEqual(rule(record)[0][0], "own")

    def test_remainders(self):
        for modulus, shift in itertools.product([1, 2, 3, 10, 9999, 10000], SHIFTS):
            self.check(Rule.remainder(modulus, shift=shift), self.around(shift))

    def test_last_figures(self):
        for prime, shift in itertools.product([2, 3, 7, 9973], SHIFTS):
            self.check(Rule.last_figure(prime, shift=shift), self.around(shift))

    def test_last_figures_of_powers(self):
        for prime, exponent in itertools.product([2, 3, 7, 9973], [0, 1, 2, 9, 50]):
            power = prime ** exponent
            for factor in range(1, 20):
                for shift in [0, 12, -12]:
                    record = power * factor + shift
                    if record >= 1:
                        self.assertEqual(Rule.last_figure(prime, shift=shift)(record),
                                         (("figure", last_figure(factor, prime)),))

    def test_leading_figures(self):
        for bits, modulus in itertools.product([1, 2, 3, 8], [1, 2, 5, 6]):
            for shift in SHIFTS:
                self.check(Rule.leading(bits, modulus, shift=shift), self.around(shift))

    def test_lengths(self):
        for bits, modulus in itertools.product(range(1, 9), range(1, 7)):
            rule = Rule.leading(bits, modulus)
            for length in range(1, 30):
                for record in [2 ** (length - 1), 2 ** length - 1, 2 ** length - 1 - 2 ** length // 3]:
                    if length < bits:
                        self.assertEqual(rule(record), (("own", record),))
                    else:
                        self.assertEqual(rule(record), (("leading", record // 2 ** (length - bits), length % modulus),))

    def test_large_records(self):
        source = random.Random(41)
        rules = [Rule.remainder(9999, shift=-3), Rule.last_figure(9973, shift=3), Rule.leading(8, 6, shift=3),
                 Rule.last_figure(2), Rule.leading(1)]
        for rule in rules:
            self.check(rule, [source.randint(1, 10 ** 30) for _ in range(50)])
            self.check(rule, [source.randint(1, 10 ** 300) for _ in range(10)])
        self.assertEqual(Rule.remainder(10)(10 ** 6000 + 3), (("rest", 3),))
        self.assertEqual(Rule.last_figure(5)(2 * 5 ** 2000), (("figure", 2),))
        self.assertEqual(Rule.leading(4, 5)(2 ** 20000 + 1), (("leading", 8, 1),))

    def test_several_factors(self):
        rule = (Rule.last_figure(3, shift=2) * Rule.remainder(4) * Rule.one_shard() * Rule.leading(2, 3)
                * Rule.remainder(4) * Rule.leading(8, 2, shift=-200) * Rule.last_figure(2, shift=50))
        self.check(rule, range(1, 400))
        self.assertEqual(len(rule(1)), 6)

    def test_argument_by_name(self):
        self.assertEqual(Rule.remainder(4)(record=7), (("rest", 3),))


class Products(unittest.TestCase):
    RULES = [Rule.one_shard(), Rule.remainder(4), Rule.last_figure(3, shift=2), Rule.leading(2, 3, shift=-1)]

    def test_factors_in_order(self):
        for first, second in itertools.product(self.RULES, repeat=2):
            before = first.factors, second.factors
            self.assertEqual((first * second).factors, first.factors + second.factors)
            self.assertIs(type(first * second), Rule)
            self.assertEqual((first.factors, second.factors), before)
            self.assertEqual((first * second * first).factors, first.factors + second.factors + first.factors)
            self.assertEqual((first * (second * first)).factors, first.factors + second.factors + first.factors)

    def test_products_with_other_values(self):
        for other in [2, 0, None, "x", (), Form({"x": 1})]:
            self.assertRaises(TypeError, lambda: Rule.remainder(4) * other)
            self.assertRaises(TypeError, lambda: other * Rule.remainder(4))

    def test_length(self):
        self.assertEqual([len(rule) for rule in self.RULES], [0, 1, 1, 1])
        self.assertEqual([len(self.RULES[1] * self.RULES[2]), len(self.RULES[0] * self.RULES[0])], [2, 0])

    def test_product_assigned_to_the_old_name(self):
        rule = old = Rule.remainder(4)
        rule *= Rule.remainder(5)
        self.assertEqual([len(old), len(rule)], [1, 2])

    def test_most_factors(self):
        rule = Rule.one_shard()
        for number in range(12):
            self.assertEqual(len(rule), number)
            rule = rule * Rule.remainder(number + 1)
        self.assertEqual(rule.factors, tuple(("remainder", number + 1, 0) for number in range(12)))
        self.assertEqual(len(rule * Rule.one_shard()), 12)
        self.assertEqual(len(Rule.one_shard() * rule), 12)
        self.assertEqual(rule(25), tuple(("rest", 25 % (number + 1)) for number in range(12)))

    def test_too_many_factors(self):
        rules = [Rule.one_shard()]
        for number in range(12):
            rules.append(rules[-1] * Rule.remainder(number + 1))
        for first, second in itertools.product(rules, repeat=2):
            count = len(first) + len(second)
            if count > 12:
                before = first.factors, second.factors
                self.assertEqual(raised(self, BadCount, "count", lambda: first * second), count)
                self.assertEqual((first.factors, second.factors), before)
            else:
                self.assertEqual(len(first * second), count)

    def test_equality(self):
        for first, second in itertools.product(self.RULES, repeat=2):
            self.assertIs(first == second, first is second)
            self.assertIs(first != second, first is not second)
        self.assertEqual(Rule.remainder(4), Rule.remainder(4, shift=0))
        self.assertEqual(Rule.leading(3), Rule.leading(3, 1))
        self.assertEqual(Rule.one_shard() * Rule.remainder(4), Rule.remainder(4))
        self.assertEqual(Rule.one_shard(), Rule.one_shard())
        self.assertNotEqual(Rule.remainder(4), Rule.remainder(5))
        self.assertNotEqual(Rule.remainder(4), Rule.remainder(4, shift=1))
        self.assertNotEqual(Rule.leading(3, 1), Rule.leading(3, 2))
        self.assertNotEqual(Rule.remainder(3), Rule.last_figure(3))

    def test_equality_looks_at_the_order(self):
        first = Rule.remainder(4) * Rule.last_figure(3)
        second = Rule.last_figure(3) * Rule.remainder(4)
        self.assertEqual(first, Rule.remainder(4) * Rule.last_figure(3))
        self.assertNotEqual(first, second)
        self.assertNotEqual(second, first)
        self.assertNotEqual(first, first * first)

    def test_equality_with_other_values(self):
        for other in [0, None, (), (("remainder", 4, 0),), "remainder", []]:
            for rule in [Rule.one_shard(), Rule.remainder(4)]:
                self.assertIs(rule == other, False)
                self.assertIs(other == rule, False)

    def test_factors_stay(self):
        rule = Rule.remainder(4) * Rule.leading(2)
        self.assertEqual(rule.factors, rule.factors)
        with self.assertRaises(AttributeError):
            rule.factors = ()


class Same(unittest.TestCase):
    def test_few_records(self):
        for rule in [Rule.one_shard(), Rule.remainder(4), Rule.leading(8)]:
            self.assertIs(rule.same([]), True)
            self.assertIs(rule.same([7]), True)
            self.assertIs(rule.same([7, 7, 7]), True)

    def test_equal_and_unequal_labels(self):
        self.assertIs(Rule.remainder(4).same([3, 7, 11, 3]), True)
        self.assertIs(Rule.remainder(4).same([3, 7, 12]), False)
        self.assertIs(Rule.remainder(4).same([12, 3, 7]), False)
        self.assertIs(Rule.remainder(4).same([3, 12, 3]), False)
        self.assertIs(Rule.one_shard().same([1, 2, 3]), True)
        self.assertIs(Rule.remainder(4, shift=100).same([3, 7]), False)
        self.assertIs(Rule.remainder(4, shift=5).same([5, 9]), False)
        self.assertIs(Rule.leading(2, 2).same([4, 5, 16, 23]), True)
        self.assertIs(Rule.leading(2, 2).same([4, 5, 8]), False)

    def test_all_factors_count(self):
        rule = Rule.remainder(4) * Rule.last_figure(3)
        self.assertIs(rule.same([1, 13]), True)
        self.assertIs(rule.same([1, 5]), False)
        self.assertIs(rule.same([1, 4]), False)

    def test_by_the_labels(self):
        source = random.Random(43)
        rules = [Rule.one_shard(), Rule.remainder(2), Rule.last_figure(3, shift=4), Rule.leading(1, 2),
                 Rule.remainder(2) * Rule.leading(1, 2)]
        for _ in range(500):
            rule = source.choice(rules)
            records = [source.randint(1, 20) for _ in range(source.randint(0, 4))]
            before = copy.copy(records)
            self.assertIs(rule.same(records), len({rule(record) for record in records}) <= 1)
            self.assertEqual(records, before)

    def test_wrong_records(self):
        for rule in [Rule.one_shard(), Rule.remainder(4), Rule.last_figure(3, shift=-9), Rule.leading(8)]:
            for records, expected in [([0], 0), ([1, 2, -5], -5), ([1, -3, 0], -3), ([0, -3], 0),
                                      ([1, 2, 3, 4, -1], -1)]:
                before = copy.copy(records)
                self.assertEqual(raised(self, OutOfRange, "value", rule.same, records), expected)
                self.assertEqual(records, before)

    def test_wrong_record_behind_labels_that_differ(self):
        self.assertEqual(raised(self, OutOfRange, "value", Rule.remainder(4).same, [1, 2, 0]), 0)
        self.assertEqual(raised(self, OutOfRange, "value", Rule.leading(1, 2).same, [1, 2, 3, -7, 0]), -7)

    def test_argument_by_name(self):
        self.assertIs(Rule.remainder(4).same(records=[1, 2]), False)


class Example(unittest.TestCase):
    def test_labels(self):
        rule = Rule.last_figure(3, shift=2) * Rule.remainder(4) * Rule.leading(2, 3)
        self.assertEqual([rule(20), rule(2), rule(1)],
                         [(("figure", 2), ("rest", 0), ("leading", 2, 2)), (("own", 2), ("rest", 2), ("leading", 2, 2)),
                          (("own", 1), ("rest", 1), ("own", 1))])

    def test_no_prime(self):
        self.assertEqual(raised(self, NotPrime, "value", Rule.last_figure, 9), 9)


if __name__ == "__main__":
    unittest.main()
