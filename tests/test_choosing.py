"""Tests of oneshard.choosing: the numbers of points 61 to 63."""

import math
import random
import unittest

from samples import patterns_of, random_patterns, random_rule, some_rules

from oneshard.choosing import choose_numbers
from oneshard.families import family_forms
from oneshard.patterns import Pattern
from oneshard.rules import Rule
from oneshard.verdicts import decide


def factors(rule, kind):
    return [factor[1:] for factor in rule.factors if factor[0] == kind]


def exponent_of(number, prime):
    """Return how often the prime divides a number that is not 0."""
    return 0 if number % prime else 1 + exponent_of(number // prime, prime)


def scale(pattern, rule, constant, lead):
    """Return N by the words of point 61."""
    found = math.lcm(*[line.modulus for line in pattern.lines if line.KIND == "congruence"],
                     *[modulus for modulus, _ in factors(rule, "remainder")])
    figures = factors(rule, "last figure")
    for prime in {prime for prime, _ in figures}:
        shifts = [shift for other, shift in figures if other == prime]
        exponents = [exponent_of(constant - shift, prime) for shift in shifts if shift != constant]
        exponents.extend(exponent_of(lead, prime) for shift in shifts if shift == constant)
        found *= prime ** (1 + max(exponents))
    return found


def unit_of(whole, t, primes):
    """Return v_t by the words of point 61."""
    product = math.prod(primes)
    found = 0
    for prime in primes:
        others = product // prime
        found += others * pow((whole // prime ** exponent_of(whole, prime)) ** t * others, -1, prime)
    found = found % product or product
    for prime in primes:
        assert found * (whole // prime ** exponent_of(whole, prime)) ** t % prime == 1
    return found


def expected_numbers(pattern, paper, rule, above):
    """Return the numbers by the words of points 61 and 62, with the exponent E of each."""
    forms = family_forms(pattern, paper)
    count = len(paper[2]) + any(line.KIND == "inequality" for line in pattern.lines)
    lead = math.lcm(*[d for _, triples in paper[2] for _, _, d in triples])
    greatest = max(abs(number) for form in forms.values() for number in form.coefficients.values())
    whole = scale(pattern, rule, paper[1], lead)
    primes = sorted({prime for prime, _ in factors(rule, "last figure")})
    product = math.prod(primes)
    bits = max([1, *[bits for bits, _, _ in factors(rule, "leading")]])
    lengths = math.lcm(*[modulus for _, modulus, _ in factors(rule, "leading")])
    numbers, exponents = {}, {}
    for t in range(count, 0, -1):
        size = sum(numbers.values()) + abs(paper[1]) + sum(abs(factor[-1]) for factor in rule.factors) + max(0, above)
        power = whole ** t
        needed = lead * power * product + lead * (2 * greatest + 1) * size
        exponent = 0
        while exponent < bits + 3 or 2 ** (exponent - bits - 3) < needed:
            exponent += lengths
        unit = unit_of(whole, t, primes)
        least = 2 ** exponent + 2 ** (exponent - bits - 2)
        steps = max(0, (least - lead * power * unit) // (lead * power * product))
        while lead * power * (unit + product * steps) < least:
            steps += 1
        numbers[f"y{t}"], exponents[t] = power * (unit + product * steps), exponent
    return numbers, exponents


class Numbers(unittest.TestCase):
    def check(self, pattern, rule, above):
        paper = decide(pattern).paper
        before = str(pattern), rule.factors
        numbers = choose_numbers(pattern, paper, rule, above)
        self.assertEqual((str(pattern), rule.factors), before)
        expected, exponents = expected_numbers(pattern, paper, rule, above)
        self.assertEqual(numbers, expected, f"{pattern}: {rule.factors}")
        self.check_records(pattern, paper, rule, numbers, exponents)

    def check_records(self, pattern, paper, rule, numbers, exponents):
        """Check by point 63 where the records are."""
        bits = max([1, *[bits for bits, _, _ in factors(rule, "leading")]])
        forms = family_forms(pattern, paper)
        for place, (group, _) in enumerate(paper[2], 1):
            for name in group:
                for shift in [factor[-1] for factor in rule.factors]:
                    least = 2 ** exponents[place]
                    self.assertIn(forms[name](numbers) - shift, range(least, least + least // 2 ** bits + 1))

    def test_some_rules(self):
        for pattern in patterns_of("family"):
            for rule in some_rules(decide(pattern).paper[1]):
                for above in [0, -7, 10 ** 30]:
                    self.check(pattern, rule, above)

    def test_random_rules(self):
        source = random.Random(61)
        for pattern in [*patterns_of("family") * 6, *random_patterns(63, 500)]:
            paper = decide(pattern).paper
            if paper[0] == "family":
                self.check(pattern, random_rule(source, paper[1]), source.choice([0, 1, -5, 1000, 10 ** 12]))

    def test_written_numbers(self):
        pattern = Pattern.read("x y\nx != y")
        self.assertEqual(choose_numbers(pattern, ("family", 0, ((("x", "y"), ()),), (1, 0)), Rule.one_shard(), 0),
                         {"y1": 1152, "y2": 18})


if __name__ == "__main__":
    unittest.main()
