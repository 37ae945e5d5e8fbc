"""Tests of oneshard.shelves: points 19, 20, 55 and 64 to 67."""

import itertools
import unittest

from samples import SURE, TEXTS, all_patterns, box, patterns_of, raised, random_patterns

from oneshard.errors import BadCount, DuplicateName
from oneshard.forms import Form
from oneshard.lines import Congruence, Equation, Unlike
from oneshard.patterns import Pattern
from oneshard.placing import place, splitting_rule
from oneshard.rules import Rule
from oneshard.shelves import joined, least_drops, one_rule
from oneshard.verdicts import decide


def homogeneous(pattern):
    return all(line.KIND == "inequality" or line.form.constant == 0 for line in pattern.lines)


def renamed(pattern, letter):
    """Return the pattern with new names."""
    names = {name: f"{letter}{number}" for number, name in enumerate(pattern.names)}
    lines = []
    for line in pattern.lines:
        if line.KIND == "inequality":
            lines.append(Unlike(names[line.first], names[line.second]))
            continue
        form = Form({names[name]: number for name, number in line.form.coefficients.items()}, line.form.constant)
        lines.append(Equation(form) if line.KIND == "equation" else Congruence(form, line.modulus))
    return Pattern(list(names.values()), lines)


class Joining(unittest.TestCase):
    def test_one_pattern(self):
        for _, pattern in all_patterns():
            self.assertEqual(joined(pattern), pattern)

    def test_two_patterns(self):
        first = Pattern.read("x y z\nx + y = z\nx != y")
        second = Pattern.read("a b\na = 2*b (mod 5)")
        before = str(first), str(second)
        self.assertEqual(joined(first, second), first & second)
        self.assertEqual(joined(second, first), second & first)
        self.assertNotEqual(joined(first, second), joined(second, first))
        self.assertEqual(str(joined(first, second)), "x y z a b\nx + y - z = 0\nx != y\na - 2*b = 0 (mod 5)")
        self.assertEqual((str(first), str(second)), before)

    def test_many_patterns(self):
        patterns = [Pattern.read(f"{name}\n{name} = {number}") for number, name in enumerate("fedcb")]
        self.assertEqual(str(joined(*patterns)), "f e d c b\nf = 0\ne = 1\nd = 2\nc = 3\nb = 4")
        self.assertEqual(str(joined(Pattern(["x"]), *patterns[:3])), "x f e d\nf = 0\ne = 1\nd = 2")
        self.assertEqual(joined(*[Pattern([name]) for name in "abcdef"]).names, tuple("abcdef"))
        self.assertEqual([len(pattern) for pattern in patterns], [1] * 5)

    def test_name_twice(self):
        first, second, third = Pattern(["x", "y"]), Pattern(["z", "y", "x"]), Pattern(["u", "z"])
        self.assertEqual(raised(self, DuplicateName, "name", joined, first, second), "y")
        self.assertEqual(raised(self, DuplicateName, "name", joined, second, first), "x")
        self.assertEqual(raised(self, DuplicateName, "name", joined, third, second, first), "z")
        self.assertEqual(raised(self, DuplicateName, "name", joined, first, first), "x")
        self.assertEqual(raised(self, DuplicateName, "name", joined, first, third, Pattern(["x"]), Pattern(["u"])), "x")

    def test_too_many_names(self):
        first, second, third = Pattern(["a", "b", "c"]), Pattern(["d", "e", "f"]), Pattern(["g", "h"])
        self.assertEqual(raised(self, BadCount, "count", joined, first, second, third), 8)
        self.assertEqual(raised(self, BadCount, "count", joined, first, second, Pattern(["g"]), third), 7)

    def test_too_many_lines(self):
        first = Pattern.read("a b\na = 1\na = 2\na = 3")
        second = Pattern.read("c\nc = 1\nc = 2\nc = 3")
        self.assertEqual(raised(self, BadCount, "count", joined, first, second), 6)
        self.assertEqual(len(joined(first, second.without([0]))), 5)

    def test_two_errors_at_once(self):
        three = Pattern.read("a b c\na = 1\nb = 1\nc = 1")
        self.assertEqual(raised(self, BadCount, "count", joined, three, Pattern(["a", "d", "e", "f"])), 7)
        self.assertEqual(raised(self, DuplicateName, "name", joined, three, three), "a")
        self.assertEqual(raised(self, DuplicateName, "name", joined, three, Pattern.read("d c\nd = 1\nd = 2\nd = 3")),
                         "c")

    def test_first_step_from_the_left(self):
        one, other = Pattern(["a", "b"]), Pattern(["c", "d"])
        self.assertEqual(raised(self, DuplicateName, "name", joined, one, Pattern(["b"]), Pattern(list("uvwxyz"))), "b")
        self.assertEqual(raised(self, BadCount, "count", joined, one, Pattern(list("uvwxyz")), Pattern(["b"])), 8)
        self.assertEqual(raised(self, DuplicateName, "name", joined, one, other, Pattern(["c"]), one), "c")

    def test_patterns_stay(self):
        first, second = Pattern(["x"]), Pattern(["x"])
        raised(self, DuplicateName, "name", joined, first, second)
        self.assertEqual([str(first), str(second)], ["x", "x"])

    def test_homogeneous_patterns(self):
        patterns = [pattern for _, pattern in all_patterns() if homogeneous(pattern)]
        patterns.extend(pattern for pattern in random_patterns(65, 400, most_names=3, most_lines=2)
                        if homogeneous(pattern))
        joins = {True: 0, False: 0}
        for first, second in itertools.product(patterns[::2], patterns[::3]):
            if len(first.names) + len(second.names) <= 6 and len(first) + len(second) <= 5:
                both = decide(first).sure and decide(second).sure
                joins[both] += 1
                self.assertIs(decide(joined(renamed(first, "a"), renamed(second, "b"))).sure, both)
        self.assertGreater(min(joins.values()), 300)

    def test_sure_patterns_that_are_not_sure_together(self):
        for first, second in [("x\nx = 3", "y\ny = 4"), ("x\nx = 1 (mod 2)", "y\ny = 0 (mod 2)"),
                              ("x y z\nx + y = z + 3\nx != y", "a b c\na + b = c + 4\na != b")]:
            first, second = Pattern.read(first), Pattern.read(second)
            self.assertEqual([decide(first).sure, decide(second).sure, decide(joined(first, second)).sure],
                             [True, True, False])

    def test_joined_patterns_are_placed(self):
        pattern = joined(Pattern.read("x y z\nx + y = z\nx != y"), Pattern.read("a b c\na + b = 2*c\na != b"))
        rule = Rule.last_figure(3) * Rule.remainder(10) * Rule.leading(3, 2)
        records = place(pattern, rule)
        self.assertEqual([pattern.holds(records), rule.same(list(records.values()))], [True, True])


class OneRule(unittest.TestCase):
    def test_no_pattern_and_sure_ones(self):
        self.assertEqual(one_rule(), Rule.one_shard())
        self.assertEqual(one_rule(*patterns_of("single", "family")), Rule.one_shard())
        self.assertIs(type(one_rule()), Rule)

    def test_product_in_order(self):
        for pattern in patterns_of("rests", "same", "figures"):
            self.assertEqual(one_rule(pattern), splitting_rule(pattern))
        patterns = [pattern for texts in TEXTS.values() for pattern in map(Pattern.read, texts[1:4])]
        for several in [patterns[:9], patterns[::-1][:12], patterns[5:]]:
            before = [str(pattern) for pattern in several]
            expected = Rule.one_shard()
            for pattern in several:
                if not decide(pattern).sure:
                    expected = expected * splitting_rule(pattern)
            self.assertEqual(one_rule(*several).factors, expected.factors)
            self.assertGreater(len(expected), 1)
            self.assertEqual([str(pattern) for pattern in several], before)

    def test_written_rule(self):
        rests, figures = Pattern.read("x y\nx = y + 1"), Pattern.read("x y z\nx + y = 3*z")
        same, sure = Pattern.read("x y\nx = y\nx != y"), Pattern.read("x")
        self.assertEqual(one_rule(rests, same, sure, figures).factors, (("remainder", 2, 0), ("last figure", 5, 0)))
        self.assertEqual(one_rule(figures, sure, same, rests).factors, (("last figure", 5, 0), ("remainder", 2, 0)))
        self.assertEqual(one_rule(figures, figures).factors, (("last figure", 5, 0), ("last figure", 5, 0)))
        self.assertEqual(one_rule(same, same, same), Rule.one_shard())

    def test_twelve_and_thirteen(self):
        others = [*patterns_of("rests")[:6], *patterns_of("figures")[:6]]
        harmless = [*patterns_of("same"), *patterns_of("single")]
        self.assertEqual(len(one_rule(*others)), 12)
        self.assertEqual(len(one_rule(*others, *harmless)), 12)
        self.assertEqual(raised(self, BadCount, "count", one_rule, *others, others[0]), 13)
        self.assertEqual(raised(self, BadCount, "count", one_rule, *harmless, *others, *harmless, *others), 13)
        self.assertEqual(raised(self, BadCount, "count", one_rule, *[others[7]] * 40), 13)

    def test_whole_solutions_under_the_rule(self):
        for start in range(6):
            patterns = [texts[(start + place) % len(texts)] for place, texts in enumerate(TEXTS.values())]
            patterns = [Pattern.read(text) for text in patterns * 2]
            rule = one_rule(*patterns)
            for pattern in patterns:
                if decide(pattern).sure:
                    records = place(pattern, rule)
                    self.assertEqual([pattern.holds(records), rule.same(list(records.values()))], [True, True])
                else:
                    self.assertFalse(any(rule.same(list(records.values())) for records in box(pattern)))

    def test_kind_same_has_no_solutions_at_all(self):
        for pattern in patterns_of("same"):
            self.assertEqual(box(pattern), [])


class LeastDrops(unittest.TestCase):
    def check(self, pattern):
        """Check the drops of a pattern by point 67, and return them."""
        before = str(pattern)
        found = least_drops(pattern)
        self.assertEqual(str(pattern), before)
        self.assertIs(type(found), list)
        self.assertTrue(all(type(drop) is tuple for drop in found))
        self.assertEqual(found, sorted(found, key=lambda drop: (len(drop), drop)))
        self.assertEqual(len(set(found)), len(found))
        self.assertGreater(len(found), 0)
        for drop in found:
            self.assertEqual(list(drop), sorted(set(drop)))
        for first, second in itertools.permutations(found, 2):
            self.assertFalse(set(first) <= set(second))
        for size in range(len(pattern) + 1):
            for numbers in itertools.combinations(range(len(pattern)), size):
                expected = any(set(drop) <= set(numbers) for drop in found)
                self.assertIs(decide(pattern.without(numbers)).sure, expected, f"{pattern}: {found}, {numbers}")
        return found

    def test_sure_patterns(self):
        for pattern in patterns_of(*SURE):
            self.assertEqual(self.check(pattern), [()])

    def test_pattern_without_lines(self):
        self.assertEqual(self.check(Pattern(["x", "y"])), [()])

    def test_written_drops(self):
        for text, expected in [
                ("x\n0 = 1", [(0,)]), ("x\n0 = 1\n0 = 2", [(0, 1)]), ("x y\nx = y\nx != y", [(0,), (1,)]),
                ("x y\nx = 3\ny = 3\nx = 4", [(2,), (0, 1)]),
                ("x\nx = 1\nx = 2\nx = 3\nx = 2", [(0, 2), (0, 1, 3), (1, 2, 3)]),
                ("x y\nx = 2*y\nx != y", [(0,)]), ("x y\nx = 2*y\ny = 3*x\nx = 0", [(0, 1, 2)]),
                ("x y z\nx != y\nx = y\ny = z\nx = z", [(0,), (1, 2), (1, 3)])]:
            self.assertEqual(self.check(Pattern.read(text)), expected)

    def test_other_kinds(self):
        for pattern in patterns_of("rests", "same", "figures"):
            self.assertNotIn((), self.check(pattern))

    def test_five_lines(self):
        self.assertEqual(self.check(Pattern.read("x\n0 = 1\n0 = 2\n0 = 3\n0 = 4\n0 = 5")), [(0, 1, 2, 3, 4)])
        self.assertEqual(len(self.check(Pattern.read("x\nx = 1\nx = 2\nx = 3\nx = 4\nx = 5"))), 5)
        found = self.check(Pattern.read("x y z\nx = 1 (mod 2)\nx = 2 (mod 4)\ny = 3\nz = x + y\nx = 0 (mod 3)"))
        self.assertGreater(len(found), 1)

    def test_random_patterns(self):
        lengths = set()
        for pattern in random_patterns(67, 300):
            lengths.update(len(drop) for drop in self.check(pattern))
        self.assertLessEqual({0, 1, 2, 3}, lengths)

    def test_bounds(self):
        self.check(Pattern.read("a b c d e f\n20*a + 19*b + 18*c - 17*d - 16*e - 15*f = 1000\na != b\nb != c"
                                "\n20*a - 20*b = 1000 (mod 40)\n20*c - 20*d = 20"))

    def test_results_are_new(self):
        pattern = Pattern.read("x y\nx = y\nx != y")
        least_drops(pattern).clear()
        self.assertEqual(least_drops(pattern=pattern), [(0,), (1,)])


class Example(unittest.TestCase):
    def test_shelf(self):
        first = Pattern.read("x y z\nx + y = z")
        second = Pattern.read("a b\na = 2*b\na != b")
        self.assertEqual([len(joined(first, second)), least_drops(second), len(one_rule(first, second))],
                         [3, [(0,)], 1])


if __name__ == "__main__":
    unittest.main()
