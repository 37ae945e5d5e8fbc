"""Tests of oneshard.placing: points 1, 5 to 9, 42, 49 to 52 and 58 to 60."""

import inspect
import random
import unittest

from samples import SURE, all_patterns, box, patterns_of, raised, random_patterns, random_rule, some_rules

from oneshard.errors import IsSure, NotSure
from oneshard.families import family_forms
from oneshard.forms import Form
from oneshard.lines import Congruence, Equation, Unlike
from oneshard.patterns import Pattern
from oneshard.placing import place, places, splitting_rule
from oneshard.rules import Rule
from oneshard.verdicts import decide

BOUNDS = [0, 1, -1, 999, -10 ** 30, 10 ** 30]
PRIMES = [9973, 9967, 9949, 9941, 9931, 9929]


def constant_of(pattern):
    return decide(pattern).paper[1]


def full_rules(constant):
    """Return rules with 12 factors whose primes and moduli are as large as they may be."""
    rules = []
    for shift in [0, constant, -10000]:
        rule = Rule.one_shard()
        for prime, modulus in zip(PRIMES, [10000, 9999, 9998, 9997, 9995, 9991]):
            rule = rule * Rule.last_figure(prime, shift=shift) * Rule.remainder(modulus, shift=-shift)
        rules.append(rule)
    rule = Rule.one_shard()
    for bits, modulus, shift in zip([8, 7, 8, 1], [6, 5, 4, 3], [10000, constant, -10000, 0]):
        rule = rule * Rule.leading(bits, modulus, shift=shift) * Rule.last_figure(2 + modulus % 2, shift=-shift)
        rule = rule * Rule.last_figure(3, shift=constant)
    rules.append(rule)
    return rules


class Placing(unittest.TestCase):
    def check(self, pattern, rule, records, above=None):
        """Check a solution that is placed above an integer, or by a single constant if this is None."""
        self.assertIs(type(records), dict)
        self.assertEqual(list(records), list(pattern.names))
        self.assertTrue(all(type(record) is int for record in records.values()))
        self.assertIs(pattern.holds(records), True, f"{pattern}: {records}")
        self.assertIs(rule.same(list(records.values())), True, f"{pattern}: {rule.factors}, {records}")
        if above is None:
            self.assertEqual(set(records.values()), {constant_of(pattern)})
        else:
            self.assertGreater(min(records.values()), above)

    def place(self, pattern, rule, above=0):
        """Place a pattern, check the solution by point 58, and return it."""
        before = str(pattern), rule.factors
        records = place(pattern, rule, above=above)
        self.assertEqual((str(pattern), rule.factors), before)
        self.check(pattern, rule, records, above if decide(pattern).kind == "family" else None)
        self.assertEqual(place(pattern, rule, above=above), records)
        return records


class Families(Placing):
    def test_each_kind_of_factor(self):
        for pattern in patterns_of("family"):
            for rule in some_rules(constant_of(pattern)):
                self.place(pattern, rule)

    def test_bounds_above(self):
        for pattern in patterns_of("family"):
            rules = some_rules(constant_of(pattern))
            for above in BOUNDS:
                for rule in [rules[0], rules[3], rules[10], rules[-4], rules[-1]]:
                    self.place(pattern, rule, above)

    def test_records_are_above_zero_by_default(self):
        for pattern in patterns_of("family"):
            self.check(pattern, Rule.one_shard(), place(pattern, Rule.one_shard()), 0)

    def test_random_rules(self):
        source = random.Random(58)
        for pattern in patterns_of("family"):
            for _ in range(12):
                self.place(pattern, random_rule(source, constant_of(pattern)), source.choice(BOUNDS))

    def test_random_patterns(self):
        source = random.Random(59)
        placed = 0
        for pattern in random_patterns(60, 1500):
            if decide(pattern).kind == "family":
                placed += 1
                self.place(pattern, random_rule(source, constant_of(pattern)), source.choice(BOUNDS))
        self.assertGreater(placed, 120)

    def test_twelve_factors(self):
        for pattern in patterns_of("family"):
            for rule in full_rules(constant_of(pattern)):
                self.assertEqual(len(rule), 12)
                self.place(pattern, rule, 10 ** 30)

    def test_large_primes_and_moduli(self):
        pattern = Pattern.read("x y z u v\nx - z + u = 4\n6*x - 6*z - 4*y + 6*v = 8\nu != v")
        for shift in [4, 0, 5, -10000, 10000, 4 + 9973, 4 - 9973]:
            self.place(pattern, Rule.last_figure(9973, shift=shift) * Rule.remainder(10000, shift=shift))

    def test_shift_equal_to_the_constant_where_the_lead_has_the_prime(self):
        # The lead of these families is 3.
        for text in ["x y z u v\nx - z + u = 4\n6*x - 6*z - 4*y + 6*v = 8\nu != v",
                     "x y z u v\nx - z + u = 0\n6*x - 6*z - 4*y + 6*v = 0\nu != v"]:
            pattern = Pattern.read(text)
            constant = constant_of(pattern)
            self.assertIn("3*y1", str(family_forms(pattern, decide(pattern).paper)["z"]))
            for shift in range(constant - 20, constant + 82):
                rule = Rule.last_figure(3, shift=shift) * Rule.last_figure(3, shift=constant)
                self.place(pattern, rule * Rule.last_figure(2, shift=constant) * Rule.leading(8, 6, shift=shift))

    def test_shifts_with_powers_of_the_prime(self):
        pattern = Pattern.read("x y z\nx + y = z + 3\nx != y")
        for prime in [2, 3, 5]:
            for exponent in range(6):
                for sign in [1, -1]:
                    self.place(pattern, Rule.last_figure(prime, shift=3 + sign * prime ** exponent))

    def test_congruences_and_remainders(self):
        pattern = Pattern.read("x y z\nx != y\nx + y = 2 (mod 40)\nx = 1 (mod 39)\nz = x (mod 37)\n2*y = 2*z (mod 38)")
        self.place(pattern, Rule.remainder(7) * Rule.remainder(10000, shift=3) * Rule.last_figure(37, shift=1))

    def test_bounds(self):
        names = ["a", "b", "c", "d", "e", "f"]
        form = Form({"a": 20, "b": -20, "c": 20, "d": -19, "e": 19, "f": -19}, -50)
        pattern = Pattern(names, [Equation(form), Equation(-form), *[Unlike("a", name) for name in "bcd"]])
        for rule in full_rules(50):
            self.place(pattern, rule, 10 ** 30)
        pattern = Pattern(names, [Equation(Form({"a": 20, "b": -20, "c": 20, "d": -20, "e": 20}, -1000)),
                                  Congruence(Form(dict.fromkeys(names, -20), 0), 40),
                                  *[Unlike("f", name) for name in "abc"]])
        self.assertEqual(decide(pattern).paper[:2], ("family", 50))
        for rule in full_rules(50):
            self.place(pattern, rule, -10 ** 30)

    def test_products_with_splitting_rules(self):
        rule = Rule.one_shard()
        for other in [*patterns_of("rests")[:3], *patterns_of("figures")[:6]]:
            rule = rule * splitting_rule(other)
        for pattern in patterns_of(*SURE):
            self.place(pattern, rule * Rule.leading(8, 6) * Rule.remainder(64, shift=5) * Rule.last_figure(3, shift=-1))

    def test_results_are_new(self):
        pattern = patterns_of("family")[0]
        records = place(pattern, Rule.one_shard())
        copied = dict(records)
        records["x"] = 0
        self.assertEqual(place(pattern, Rule.one_shard()), copied)

    def test_arguments(self):
        pattern = patterns_of("family")[0]
        self.assertEqual(place(above=0, rule=Rule.one_shard(), pattern=pattern), place(pattern, Rule.one_shard()))
        self.assertRaises(TypeError, place, pattern, Rule.one_shard(), 5)
        for call in [place, places]:
            self.assertEqual(inspect.signature(call).parameters["above"].default, 0)


class Singles(Placing):
    def test_constant_whatever_above_is(self):
        for pattern in patterns_of("single"):
            constant = constant_of(pattern)
            for rule in some_rules(constant):
                for above in [0, constant, -1, 10 ** 30]:
                    self.assertEqual(place(pattern, rule, above=above), dict.fromkeys(pattern.names, constant))
            self.place(pattern, Rule.one_shard(), 10 ** 30)


class NotSureAtAll(unittest.TestCase):
    def test_kinds(self):
        for kind, pattern in all_patterns():
            if kind not in SURE:
                before = str(pattern)
                for rule in [Rule.one_shard(), Rule.remainder(5)]:
                    self.assertEqual(raised(self, NotSure, "kind", place, pattern, rule), kind)
                    self.assertEqual(raised(self, NotSure, "kind", place, pattern, rule, above=10 ** 30), kind)
                self.assertEqual(str(pattern), before)

    def test_kinds_of_places(self):
        for kind, pattern in all_patterns():
            if kind not in SURE:
                for count in [0, 1, 5]:
                    call = lambda: list(places(pattern, Rule.one_shard(), count))
                    self.assertEqual(raised(self, NotSure, "kind", call), kind)
                    first = lambda: next(iter(places(pattern, Rule.remainder(5), count, above=7)))
                    self.assertEqual(raised(self, NotSure, "kind", first), kind)


class Places(Placing):
    def check_places(self, pattern, rule, count, above):
        """Check solutions by point 59 and return them."""
        before = str(pattern), rule.factors
        found = list(places(pattern, rule, count, above=above))
        self.assertEqual((str(pattern), rule.factors), before)
        if decide(pattern).kind == "single":
            self.assertEqual(found, [place(pattern, rule)] * min(count, 1))
            return found
        self.assertEqual(len(found), count)
        bound = above
        for records in found:
            self.check(pattern, rule, records, bound)
            bound = max(records.values())
        self.assertLessEqual(len({rule(record) for records in found for record in records.values()}), 1)
        self.assertEqual(found[:1], [place(pattern, rule, above=above)][:count])
        return found

    def test_counts(self):
        for pattern in patterns_of(*SURE):
            rules = some_rules(constant_of(pattern))
            for count in [0, 1, 2, 5]:
                for rule in [rules[0], rules[4], rules[12], rules[-2], rules[-1]]:
                    self.check_places(pattern, rule, count, 0)

    def test_bounds(self):
        source = random.Random(61)
        for pattern in patterns_of(*SURE):
            for above in BOUNDS:
                self.check_places(pattern, random_rule(source, constant_of(pattern)), 3, above)

    def test_many_factors(self):
        for pattern in patterns_of("family"):
            for rule in full_rules(constant_of(pattern)):
                self.check_places(pattern, rule, 5, 10 ** 30)

    def test_single(self):
        pattern = Pattern.read("x y z\nx + y = z + 3")
        for count, expected in [(0, []), (1, [{"x": 3, "y": 3, "z": 3}]), (5, [{"x": 3, "y": 3, "z": 3}])]:
            self.assertEqual(list(places(pattern, Rule.remainder(2), count, above=100)), expected)

    def test_callers_may_change_the_solutions(self):
        pattern = Pattern.read("x y z\nx + y = z\nx != y")
        rule = Rule.remainder(5) * Rule.leading(3, 2)
        expected = list(places(pattern, rule, 4))
        found = []
        for records in places(pattern, rule, 4):
            found.append(dict(records))
            records["x"] = 10 ** 100
            records.pop("z")
        self.assertEqual(found, expected)
        for records in places(pattern, rule, 4):
            records.clear()

    def test_arguments(self):
        pattern = Pattern.read("x y\nx != y")
        expected = list(places(pattern, Rule.one_shard(), 2, above=0))
        self.assertEqual(list(places(count=2, rule=Rule.one_shard(), pattern=pattern)), expected)
        self.assertRaises(TypeError, lambda: list(places(pattern, Rule.one_shard(), 2, 5)))

    def test_iterators(self):
        iterator = places(Pattern.read("x y\nx != y"), Rule.one_shard(), 2)
        self.assertIs(iter(iterator), iterator)
        self.assertEqual(len([next(iterator), next(iterator)]), 2)
        self.assertRaises(StopIteration, next, iterator)


class Splitting(unittest.TestCase):
    def expected(self, paper):
        if paper[0] == "rests":
            return (("remainder", paper[2], 0),)
        return () if paper[0] == "same" else (("last figure", paper[2], paper[3]),)

    def test_factors(self):
        for kind, pattern in all_patterns():
            if kind not in SURE:
                before = str(pattern)
                rule = splitting_rule(pattern)
                self.assertIs(type(rule), Rule)
                self.assertEqual(rule.factors, self.expected(decide(pattern).paper))
                self.assertEqual(splitting_rule(pattern), rule)
                self.assertEqual(str(pattern), before)

    def test_written_rules(self):
        for text, rule in [("x y\nx = y + 1", Rule.remainder(2)), ("x y\nx = y\nx != y", Rule.one_shard()),
                           ("x y z\nx + y = 3*z", Rule.last_figure(5)),
                           ("x y\nx = 2*y - 4\nx != y", Rule.last_figure(3, shift=4)),
                           ("x y\nx = 2*y + 7", Rule.last_figure(3, shift=-7))]:
            self.assertEqual(splitting_rule(Pattern.read(text)), rule)

    def test_sure_patterns(self):
        for kind, pattern in all_patterns():
            if kind in SURE:
                self.assertEqual(raised(self, IsSure, "kind", splitting_rule, pattern), kind)

    def test_no_solution_in_a_box_is_whole(self):
        solutions = 0
        for pattern in [*patterns_of("rests", "same", "figures"), *random_patterns(62, 500, most_names=4)]:
            if not decide(pattern).sure:
                rule = splitting_rule(pattern)
                for records in box(pattern):
                    solutions += 1
                    self.assertIs(rule.same(list(records.values())), False, f"{pattern}: {records}")
        self.assertGreater(solutions, 500)

    def test_whole_solutions_in_a_box_under_other_rules(self):
        # The box would notice if a rule split too little: these rules do not split the patterns.
        for text, rule in [("x y\nx = y + 2", Rule.remainder(2)), ("x y z\nx + y = 3*z", Rule.last_figure(3)),
                           ("x y\nx = 2*y - 4\nx != y", Rule.last_figure(2, shift=4))]:
            self.assertTrue(any(rule.same(list(records.values())) for records in box(Pattern.read(text))))

    def test_argument_by_name(self):
        self.assertEqual(splitting_rule(pattern=Pattern.read("x\nx = 0")), Rule.last_figure(2))


class FromTexts(Placing):
    def test_from_a_text_to_a_solution_or_a_rule(self):
        for kind, pattern in all_patterns():
            again = Pattern.read(str(pattern))
            if kind in SURE:
                self.place(again, Rule.remainder(6) * Rule.leading(2, 2), 50)
            else:
                rule = splitting_rule(again)
                self.assertFalse(any(rule.same(list(records.values())) for records in box(again)))

    def test_exactly_one_of_both(self):
        for pattern in random_patterns(1, 600):
            try:
                records = place(pattern, Rule.remainder(3))
            except NotSure as error:
                self.assertIn(error.kind, ["rests", "same", "figures"])
                self.assertIs(type(splitting_rule(pattern)), Rule)
            else:
                self.assertIs(pattern.holds(records), True)
                self.assertIn(raised(self, IsSure, "kind", splitting_rule, pattern), SURE)


class Example(unittest.TestCase):
    def test_place(self):
        rule = Rule.last_figure(3, shift=3) * Rule.remainder(4) * Rule.leading(2, 3)
        records = place(Pattern.read("x y z\nx + y = z + 3\nx != y"), rule, above=100)
        self.assertEqual([records["x"] + records["y"] == records["z"] + 3, rule.same(list(records.values()))],
                         [True, True])

    def test_not_sure(self):
        pattern = Pattern.read("x y\nx = 2*y")
        self.assertEqual(raised(self, NotSure, "kind", place, pattern, Rule.one_shard()), "figures")

    def test_splitting_rule(self):
        self.assertEqual(splitting_rule(Pattern.read("x y\nx = y\nx != y")).factors, ())


if __name__ == "__main__":
    unittest.main()
