"""Tests of oneshard.verdicts: points 1, 5 to 7, 49 to 52, 55 and 56."""

import itertools
import random
import unittest
from fractions import Fraction

from samples import SURE, all_patterns, box, last_figure, patterns_of, random_patterns

from oneshard.checking import check_paper
from oneshard.forms import Form
from oneshard.lines import Congruence, Equation, Unlike
from oneshard.patterns import Pattern
from oneshard.rules import Rule
from oneshard.splitting import partial_sums
from oneshard.staircases import reached
from oneshard.verdicts import Verdict, decide

KINDS = ["rests", "single", "same", "figures", "family"]


def fitting(pattern):
    """Return all integers of a range that fit; moduli of random patterns divide 120 or are small."""
    claims = [(sum(line.form.coefficients.values()), line.form.constant, getattr(line, "modulus", None))
              for line in pattern.lines if line.KIND != "inequality"]
    return [number for number in range(-1001, 2002)
            if all((total * number + constant) % modulus == 0 if modulus else total * number + constant == 0
                   for total, constant, modulus in claims)]


def rank(rows):
    """Return the number of independent rows."""
    rows = [[Fraction(item) for item in row] for row in rows]
    found = 0
    for place in range(len(rows[0]) if rows else 0):
        lead = next((row for row in rows[found:] if row[place]), None)
        if lead is not None:
            rows.remove(lead)
            rows.insert(found, lead)
            for row in rows[found + 1:]:
                factor = row[place] / lead[place]
                row[:] = [item - factor * other for item, other in zip(row, lead)]
            found += 1
    return found


def first_same(pattern):
    """Return the number of the first inequality whose two records the equations make equal, None if there is none."""
    rows = [[*[line.form[name] for name in pattern.names], line.form.constant]
            for line in pattern.lines if line.KIND == "equation"]
    for number, line in enumerate(pattern.lines):
        if line.KIND == "inequality":
            target = [{line.first: 1, line.second: -1}.get(name, 0) for name in pattern.names] + [0]
            if rank(rows) == rank([*rows, target]):
                return number
    return None


def all_reachable(pattern):
    columns = [[line.form[name] for line in pattern.lines if line.KIND == "equation"] for name in pattern.names]
    return reached(columns) == list(range(len(columns)))


def expected_kind(pattern):
    """Decide by points 46 to 55 which is the first kind of which the pattern has a certificate."""
    numbers = fitting(pattern)
    if not numbers:
        return "rests"
    if numbers[-1] >= 1 and not any(line.KIND == "inequality" for line in pattern.lines):
        return "single"
    if first_same(pattern) is not None:
        return "same"
    return "family" if all_reachable(pattern) else "figures"


def some_patterns():
    return [pattern for _, pattern in all_patterns()] + random_patterns(55, 400)


class Deciding(unittest.TestCase):
    def check(self, pattern):
        """Check a verdict by what points 6 and 55 say of it, and return it."""
        before = str(pattern)
        verdict = decide(pattern)
        self.assertIs(type(verdict), Verdict)
        self.assertIs(type(verdict.paper), tuple)
        self.assertIn(verdict.kind, KINDS)
        self.assertEqual(verdict.paper[0], verdict.kind)
        self.assertIs(verdict.sure, verdict.kind in SURE)
        self.assertIs(check_paper(pattern, verdict.paper), True, f"{pattern}: {verdict.paper}")
        self.assertEqual(str(pattern), before)
        getattr(self, "check_" + verdict.kind)(pattern, *verdict.paper[1:])
        return verdict

    def check_rests(self, pattern, multipliers, modulus):
        self.assertIn(modulus, range(2, 10001))
        self.assertEqual(len(multipliers), len(pattern))

    def check_single(self, pattern, constant):
        self.assertEqual(constant, min(number for number in fitting(pattern) if number >= 1))

    def check_same(self, pattern, multipliers, factor, number):
        self.assertEqual(number, first_same(pattern))

    def check_figures(self, pattern, multipliers, base, constant, steps):
        coefficients = [sum(multiplier * line.form[name] for multiplier, line in zip(multipliers, pattern.lines)
                            if multiplier) for name in pattern.names]
        sums = partial_sums([item for item in coefficients if item])
        for smaller in range(2, base):
            if all(smaller % number for number in range(2, smaller)):
                self.assertTrue(any(total % smaller == 0 for total in sums), f"{sums}: {smaller}")

    def check_family(self, pattern, constant, steps, apart):
        self.assertEqual(len(apart), len(pattern.names))

    def sure(self, pattern):
        return self.check(pattern).sure


class Kinds(Deciding):
    def test_written_patterns(self):
        for kind, pattern in all_patterns():
            self.assertEqual(self.check(pattern).kind, kind, str(pattern))

    def test_first_kind_in_the_order(self):
        found = []
        for pattern in some_patterns():
            kind = expected_kind(pattern)
            self.assertEqual(self.check(pattern).kind, kind, str(pattern))
            found.append(kind)
        self.assertTrue(all(found.count(kind) > 15 for kind in KINDS))

    def test_many_names_and_lines(self):
        for pattern in random_patterns(6, 150, most=20):
            self.assertEqual(self.check(pattern).kind, expected_kind(pattern), str(pattern))

    def test_patterns_with_two_certificates(self):
        # Each of these also has a certificate of a later kind.
        self.assertEqual(self.check(Pattern.read("x y\nx = y\nx != y\nx = 2*y + 1\nx = y + 1")).kind, "rests")
        self.assertEqual(self.check(Pattern.read("x y z\nx + y = z + 3")).kind, "single")
        self.assertEqual(self.check(Pattern.read("x y z\nz = 0\nx = y\nx != y")).kind, "same")
        self.assertEqual(self.check(Pattern.read("x y\nx = y\nx != y")).kind, "same")

    def test_single_has_the_least_constant(self):
        for text, constant in [("x", 1), ("x\nx = 0 (mod 7)", 7), ("x\nx = 3 (mod 7)", 3), ("x\nx = 1000", 1000),
                               ("x y\nx = 5 (mod 6)\ny = 7 (mod 10)", 17), ("x y\nx = y\ny = -1 (mod 40)", 39),
                               ("x\n2*x = 0 (mod 40)\n3*x = 3 (mod 9)", 40), ("x\n-x = 1 (mod 2)", 1)]:
            self.assertEqual(self.check(Pattern.read(text)).paper, ("single", constant))

    def test_same_has_the_least_number(self):
        for text, number in [("x y z\nx != z\nx = y\nx != y\ny != x", 2), ("x y z\nx != y\nx = y\ny != x", 0),
                             ("x y z\nx != z\ny != z\nx = y\nz = x\nx != y", 0)]:
            self.assertEqual(self.check(Pattern.read(text)).paper[3], number)

    def test_figures_have_the_least_prime(self):
        for text, base in [("x\nx = 0", 2), ("x\n6*x = 0", 5), ("x y\nx + y = 0", 3), ("x y z\nx + y = 3*z", 5),
                           ("x y z u\nx + y + z = 6*u", 7), ("a b c d e f\na + b + c + d + e + f = 0", 7),
                           ("a b c d e f\na + b + c + d + e = 7*f", 11)]:
            self.assertEqual(self.check(Pattern.read(text)).paper[2], base)

    def test_constants_of_papers(self):
        self.assertEqual(self.check(Pattern.read("x y\nx = 2*y + 7")).paper[3], -7)
        self.assertEqual(self.check(Pattern.read("x y\nx = 2*y - 7\nx != y")).paper[3], 7)
        self.assertEqual(self.check(Pattern.read("x y z\nx + y = z - 9")).paper[1], -9)
        self.assertEqual(self.check(Pattern.read("x y z\nx + y = z + 9\nx != z")).paper[1], 9)

    def test_bounds(self):
        names = ["a", "b", "c", "d", "e", "f"]
        source = random.Random(9)
        for _ in range(60):
            lines = []
            for _ in range(5):
                form = Form({name: source.choice([20, -20, 19, 0]) for name in names}, source.choice([0, 1000, -1000]))
                lines.append(source.choice([Equation(form), Equation(form - form.constant), Congruence(form, 40),
                                            Unlike(*source.sample(names, 2))]))
            self.check(Pattern(names, lines))
        for count in range(1, 6):
            self.assertEqual(self.check(Pattern(names, [Equation(Form({name: 20}, -1000)) for name in names[:count]]
                                                + [Unlike("f", "a")] * (count < 5))).kind,
                             "single" if count == 5 else "figures")

    def test_argument_by_name(self):
        self.assertEqual(decide(pattern=Pattern(["x"])).paper, ("single", 1))


class EqualPatterns(Deciding):
    def test_equal_papers(self):
        for pattern in some_patterns():
            again = Pattern(list(pattern.names), list(pattern.lines))
            read = Pattern.read(str(pattern))
            self.assertEqual(decide(again).paper, decide(pattern).paper)
            self.assertEqual(decide(read).paper, decide(pattern).paper)
            self.assertEqual(decide(pattern).paper, decide(pattern).paper)

    def test_lines_in_another_order(self):
        for pattern in some_patterns():
            expected = decide(pattern).sure
            for lines in itertools.islice(itertools.permutations(pattern.lines), 0, 120, 17):
                self.assertIs(self.sure(Pattern(pattern.names, lines)), expected)

    def test_names_in_another_order(self):
        for pattern in some_patterns():
            expected = decide(pattern).sure
            for names in [pattern.names[::-1], sorted(pattern.names), pattern.names[1:] + pattern.names[:1]]:
                self.assertIs(self.sure(Pattern(names, pattern.lines)), expected)

    def multiplied(self, line, factor):
        """Return a line that says the same as a line; None if it is out of range."""
        if line.KIND == "inequality":
            return Unlike(line.second, line.first)
        form = line.form * factor
        if any(abs(number) > 20 for number in form.coefficients.values()) or abs(form.constant) > 1000:
            return None
        if line.KIND == "equation":
            return Equation(form)
        return Congruence(form, line.modulus * abs(factor)) if line.modulus * abs(factor) <= 40 else None

    def test_multiplied_lines(self):
        changed = 0
        for pattern in some_patterns():
            expected = decide(pattern).sure
            for number, factor in itertools.product(range(len(pattern)), [-1, 2, -3]):
                line = self.multiplied(pattern.lines[number], factor)
                if line is not None:
                    changed += 1
                    lines = [*pattern.lines[:number], line, *pattern.lines[number + 1:]]
                    self.assertIs(self.sure(Pattern(pattern.names, lines)), expected)
        self.assertGreater(changed, 1000)

    def test_lines_twice(self):
        for pattern in some_patterns():
            if len(pattern) < 5:
                expected = decide(pattern).sure
                for line in pattern.lines:
                    self.assertIs(self.sure(Pattern(pattern.names, [*pattern.lines, line])), expected)

    def test_other_name_beside(self):
        for pattern in some_patterns():
            if len(pattern.names) < 6:
                self.assertIs(self.sure(Pattern([*pattern.names, "other"], pattern.lines)), decide(pattern).sure)


class NotSurePatterns(Deciding):
    def rule_of(self, paper):
        """Return the rule that the point of the paper's kind names."""
        if paper[0] == "rests":
            return Rule.remainder(paper[2])
        if paper[0] == "same":
            return Rule.one_shard()
        return Rule.last_figure(paper[2], shift=paper[3])

    def test_no_solution_in_a_box_is_whole(self):
        seen = dict.fromkeys(KINDS, 0)
        for pattern in [*patterns_of("rests", "same", "figures"), *random_patterns(5, 700, most_names=4)]:
            verdict = decide(pattern)
            if not verdict.sure:
                rule = self.rule_of(verdict.paper)
                for records in box(pattern):
                    seen[verdict.kind] += 1
                    self.assertIs(rule.same(list(records.values())), False, f"{pattern}: {records}")
        self.assertGreater(seen["rests"], 100)
        self.assertGreater(seen["figures"], 100)
        self.assertEqual(seen["same"], 0)

    def test_rests_by_remainders(self):
        for pattern in patterns_of("rests"):
            modulus = decide(pattern).paper[2]
            for records in box(pattern):
                self.assertGreater(len({record % modulus for record in records.values()}), 1)

    def test_figures_by_last_figures(self):
        for text in ["x y z\nx + y = 3*z", "x y\nx = 2*y", "x y\n3*x = 5*y", "x y z\n2*x + 3*y = 7*z"]:
            pattern = Pattern.read(text)
            _, _, base, constant, _ = decide(pattern).paper
            self.assertEqual(constant, 0)
            solutions = box(pattern)
            self.assertGreater(len(solutions), 5)
            for records in solutions:
                self.assertGreater(len({last_figure(record, base) for record in records.values()}), 1)

    def test_sure_patterns_with_the_constant_alone(self):
        for pattern in patterns_of("single"):
            constant = decide(pattern).paper[1]
            self.assertIs(pattern.holds(dict.fromkeys(pattern.names, constant)), True)


class Verdicts(unittest.TestCase):
    PAPERS = [("rests", (1,), 2), ("single", 3), ("same", (0, 1, 0), 1, 2), ("figures", (1,), 5, 0, ()),
              ("family", 0, ((("x", "y"), ()),), (0, 0))]

    def test_attributes(self):
        for paper in self.PAPERS:
            verdict = Verdict(paper)
            self.assertEqual([verdict.kind, verdict.paper], [paper[0], paper])
            self.assertEqual(sorted(vars(verdict))[-2:], ["kind", "paper"])
            self.assertIs(verdict.sure, paper[0] in ("single", "family"))
            self.assertIs(Verdict(paper=paper).sure, verdict.sure)

    def test_sure_is_a_property(self):
        with self.assertRaises(AttributeError):
            Verdict(self.PAPERS[0]).sure = True

    def test_verdicts_of_patterns(self):
        for kind, pattern in all_patterns():
            verdict = decide(pattern)
            self.assertEqual([verdict.kind, verdict.sure], [kind, kind in SURE])
            self.assertEqual(Verdict(verdict.paper).sure, verdict.sure)


class Example(unittest.TestCase):
    def test_kinds(self):
        rows = ["x + y = z", "x + y = 3*z", "x + y = z + 3", "x = y + 1", "z = 0\nx = y\nx != y"]
        self.assertEqual([decide(Pattern.read("x y z\n" + row)).kind for row in rows],
                         ["family", "figures", "single", "rests", "same"])


if __name__ == "__main__":
    unittest.main()
