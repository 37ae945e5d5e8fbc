"""Tests of oneshard.checking: points 30 and 48 to 54."""

import itertools
import math
import random
import unittest

from samples import all_patterns, box, last_figure, patterns_of, random_patterns

from oneshard.checking import check_paper
from oneshard.forms import Form
from oneshard.lines import Congruence, Equation, Unlike
from oneshard.patterns import Pattern
from oneshard.splitting import partial_sums
from oneshard.staircases import check_steps
from oneshard.verdicts import decide

BIG = 10 ** 30 - 1


def fits(line, constant):
    return line.holds(dict.fromkeys(line.names, constant))


def lines_of(pattern, kind):
    return [line for line in pattern.lines if line.KIND == kind]


def summed(pattern, multipliers):
    """Return the combination as a dict of all coefficients and a constant."""
    coefficients, constant = dict.fromkeys(pattern.names, 0), 0
    for line, multiplier in zip(pattern.lines, multipliers):
        if line.KIND != "inequality":
            constant += line.form.constant * multiplier
            for name, coefficient in line.form.coefficients.items():
                coefficients[name] += coefficient * multiplier
    return coefficients, constant


def right_names_steps(pattern, steps):
    used = [name for group, triples in steps for name in [*group, *[name for name, _, _ in triples]]]
    if not set(used) <= set(pattern.names):
        return False
    numbers = {name: number for number, name in enumerate(pattern.names)}
    columns = [[line.form[name] for line in lines_of(pattern, "equation")] for name in pattern.names]
    return check_steps(columns, [([numbers[name] for name in group], [(numbers[name], n, d) for name, n, d in triples])
                                 for group, triples in steps])


def multipliers_of_equations(pattern, multipliers):
    return len(multipliers) == len(pattern.lines) and all(
        line.KIND == "equation" or multiplier == 0 for line, multiplier in zip(pattern.lines, multipliers))


def right_paper(pattern, paper):
    """Decide by the words of points 49 to 53 whether a paper is a certificate."""
    kind, *items = paper
    unlike = lines_of(pattern, "inequality")
    equations = lines_of(pattern, "equation")
    if kind == "rests":
        multipliers, modulus = items
        if len(multipliers) != len(pattern.lines) or modulus < 2:
            return False
        for line, multiplier in zip(pattern.lines, multipliers):
            if line.KIND == "inequality" and multiplier or (
                    line.KIND == "congruence" and line.modulus * multiplier % modulus):
                return False
        coefficients, constant = summed(pattern, multipliers)
        return sum(coefficients.values()) % modulus == 0 and constant % modulus != 0
    if kind == "single":
        return items[0] >= 1 and not unlike and all(fits(line, items[0]) for line in pattern.lines)
    if kind == "same":
        multipliers, factor, number = items
        if not multipliers_of_equations(pattern, multipliers) or factor < 1:
            return False
        if number not in range(len(pattern.lines)) or pattern.lines[number].KIND != "inequality":
            return False
        first, second = pattern.lines[number].names
        expected = {**dict.fromkeys(pattern.names, 0), first: factor, second: -factor}
        return summed(pattern, multipliers) == (expected, 0)
    if kind == "figures":
        multipliers, base, constant, steps = items
        if not multipliers_of_equations(pattern, multipliers) or not right_names_steps(pattern, steps):
            return False
        if base < 2 or any(base % number == 0 for number in range(2, math.isqrt(base) + 1)):
            return False
        if not all(fits(line, constant) for line in equations) or (constant >= 1 and not unlike):
            return False
        coefficients, _ = summed(pattern, multipliers)
        grouped = [name for group, _ in steps for name in group]
        if any((coefficients[name] == 0) != (name in grouped) for name in pattern.names):
            return False
        others = [coefficient for coefficient in coefficients.values() if coefficient]
        return bool(others) and all(total % base for total in partial_sums(others))
    constant, steps, apart = items
    if not all(fits(line, constant) for line in pattern.lines if line.KIND != "inequality"):
        return False
    if not right_names_steps(pattern, steps) or len(apart) != len(pattern.names):
        return False
    if {name for group, _ in steps for name in group} != set(pattern.names):
        return False
    values = dict(zip(pattern.names, apart))
    return (all(sum(line.form[name] * values[name] for name in pattern.names) == 0 for line in equations)
            and all(values[line.first] != values[line.second] for line in unlike))


class Checking(unittest.TestCase):
    def check(self, expected, pattern, *papers):
        for paper in papers:
            before = str(pattern)
            self.assertIs(check_paper(pattern, paper), expected, f"{pattern}: {paper}")
            self.assertEqual(right_paper(pattern, paper), expected)
            self.assertEqual(str(pattern), before)

    def right(self, pattern, *papers):
        self.check(True, pattern, *papers)

    def wrong(self, pattern, *papers):
        self.check(False, pattern, *papers)


class Rests(Checking):
    PATTERN = Pattern.read("x y\nx = y + 1\nx != y\nx + y = 1 (mod 6)")

    def papers(self, *pairs):
        return [("rests", *pair) for pair in pairs]

    def test_right(self):
        self.right(self.PATTERN, *self.papers(((1, 0, 0), 2), ((1, 0, 0), 97), ((-5, 0, 0), 3), ((0, 0, 1), 2),
                                              ((BIG, 0, 6), 12), ((2, 0, 3), 2)))

    def test_wrong(self):
        self.wrong(self.PATTERN, *self.papers(
            ((1, 0), 2), ((1, 0, 0, 0), 2), ((), 2), ((1, 1, 0), 2), ((1, 0, 0), 1), ((1, 0, 0), 0), ((1, 0, 0), -2),
            ((0, 0, 1), 4), ((0, 0, 1), 3), ((0, 0, 6), 9), ((2, 0, 0), 2), ((0, 0, 0), 2), ((1, 0, 1), 2)))


class Single(Checking):
    def test_right(self):
        self.right(Pattern.read("x"), ("single", 1), ("single", 2), ("single", BIG))
        self.right(Pattern.read("x y z\nx + y = z + 3"), ("single", 3))
        self.right(Pattern.read("x y\nx = 1 (mod 6)\ny = 3 (mod 4)"), ("single", 7), ("single", 19))

    def test_wrong_constant(self):
        self.wrong(Pattern.read("x y z\nx + y = z + 3"), ("single", 2), ("single", 4), ("single", 0), ("single", -3))
        self.wrong(Pattern.read("x"), ("single", 0), ("single", -1), ("single", -BIG))
        self.wrong(Pattern.read("x\nx = 0"), ("single", 0), ("single", 1))
        self.wrong(Pattern.read("x y\nx = -4"), ("single", -4), ("single", 4))

    def test_one_line_that_does_not_fit(self):
        rows = ["x + y = z + 3", "2*x = y + z", "x = 3 (mod 5)", "y + z = 0 (mod 6)"]
        for place, row in enumerate(["x = 4", "x + y = 7", "x = 4 (mod 5)", "z = 0 (mod 2)"]):
            right = Pattern.read("\n".join(["x y z", *rows]))
            self.right(right, ("single", 3))
            self.wrong(Pattern.read("\n".join(["x y z", *rows[:place], row, *rows[place:]])), ("single", 3))

    def test_inequality(self):
        self.wrong(Pattern.read("x y\nx != y"), ("single", 1), ("single", 2))
        self.wrong(Pattern.read("x y z\nx + y = z + 3\nx != z"), ("single", 3))


class Same(Checking):
    PATTERN = Pattern.read("x y z\nx - y + 2*z = 2*x - 5*y + 5*z\n3*z = 3*y\nx = y (mod 6)\nx != y\nz != x")

    def test_right(self):
        # The first equation is -x + 4*y - 3*z = 0, the second one -3*y + 3*z = 0.
        self.right(self.PATTERN, ("same", (-1, -1, 0, 0, 0), 1, 3), ("same", (-7, -7, 0, 0, 0), 7, 3),
                   ("same", (3, 4, 0, 0, 0), 3, 4), ("same", (3 * BIG, 4 * BIG, 0, 0, 0), 3 * BIG, 4))
        self.right(Pattern.read("x y\nx = y\nx != y"), ("same", (1, 0), 1, 1), ("same", (5, 0), 5, 1))
        self.right(Pattern.read("x y\nx != y\nx = y\ny != x"), ("same", (0, 1, 0), 1, 0), ("same", (0, -1, 0), 1, 2))

    def test_factor(self):
        pattern = Pattern.read("x y\nx = y\nx != y")
        self.wrong(pattern, ("same", (0, 0), 0, 1), ("same", (-1, 0), -1, 1), ("same", (1, 0), 2, 1),
                   ("same", (2, 0), 1, 1), ("same", (1, 0), 0, 1), ("same", (-BIG, 0), -BIG, 1), ("same", (0, 0), 1, 1))

    def test_number_of_multipliers(self):
        pattern = Pattern.read("x y\nx = y\nx != y")
        self.wrong(pattern, ("same", (1,), 1, 1), ("same", (), 1, 1), ("same", (1, 0, 0), 1, 1))

    def test_multipliers_of_other_lines(self):
        pattern = Pattern.read("x y\nx = y\nx != y\nx = y (mod 6)\n0 = 0 (mod 6)\nx != y")
        self.right(pattern, ("same", (1, 0, 0, 0, 0), 1, 1), ("same", (1, 0, 0, 0, 0), 1, 4))
        self.wrong(pattern, ("same", (0, 0, 1, 0, 0), 1, 1), ("same", (1, 0, 0, 1, 0), 1, 1),
                   ("same", (1, 1, 0, 0, 0), 1, 1), ("same", (1, 0, 0, 0, -1), 1, 1), ("same", (2, 0, -1, 0, 0), 1, 1),
                   ("same", (1, 0, 0, 6, 0), 1, 1))

    def test_number_of_the_inequality(self):
        paper = ("same", (-1, -1, 0, 0, 0), 1)
        self.right(self.PATTERN, (*paper, 3))
        self.wrong(self.PATTERN, *[(*paper, number) for number in [0, 1, 2, 4, 5, 6, -1, -2, -3, -5, BIG, -BIG]])
        pattern = Pattern.read("x y\nx != y\nx = y\nx != y")
        self.right(pattern, ("same", (0, 1, 0), 1, 0), ("same", (0, 1, 0), 1, 2))
        self.wrong(pattern, *[("same", (0, 1, 0), 1, number) for number in [-1, -3, 1, 3, 4]])

    def test_names_exchanged(self):
        pattern = Pattern.read("x y\nx = y\ny != x")
        self.right(pattern, ("same", (-1, 0), 1, 1))
        self.wrong(pattern, ("same", (1, 0), 1, 1))

    def test_constant(self):
        self.wrong(Pattern.read("x y\nx = y + 1\nx != y"), ("same", (1, 0), 1, 1))
        pattern = Pattern.read("x y z\nx + z = y + 4\nz = 4\nz = 3\nx != y")
        self.right(pattern, ("same", (1, -1, 0, 0), 1, 3))
        self.wrong(pattern, ("same", (1, 0, -1, 0), 1, 3))

    def test_third_name(self):
        pattern = Pattern.read("x y z\nx + z = y\nx = y + 2*z\nx != y")
        self.right(pattern, ("same", (2, 1, 0), 3, 2))
        self.wrong(pattern, ("same", (1, 0, 0), 1, 2), ("same", (0, 1, 0), 1, 2), ("same", (1, 1, 0), 2, 2))
        self.wrong(Pattern.read("x y z\nx = z\nx != y"), ("same", (1, 0), 1, 1))

    def test_records_are_equal(self):
        checked = 0
        for pattern in [self.PATTERN, *patterns_of("same")]:
            paper = decide(pattern).paper
            line = pattern.lines[paper[3]]
            without = [number for number, other in enumerate(pattern.lines) if other.KIND != "equation"]
            for records in box(pattern.without(without)):
                checked += 1
                self.assertEqual(records[line.first], records[line.second])
        self.assertGreater(checked, 30)


class Figures(Checking):
    PATTERN = Pattern.read("x y z u v\nx + y = 3*z\nu = v\n2*x - y = z (mod 7)")
    STEPS = ((("u", "v"), ()),)

    def test_right(self):
        for base in [5, 7, 11, 999983]:
            for multiplier in [1, -1]:
                self.right(self.PATTERN, ("figures", (multiplier, 0, 0), base, 0, self.STEPS))
        self.right(self.PATTERN, ("figures", (4, 0, 0), 5, 0, self.STEPS),
                   ("figures", (1, 0, 0), 5, 0, ((("v", "u"), ()),)))
        self.right(Pattern.read("x\nx = 0"), ("figures", (1,), 2, 0, ()))
        self.right(Pattern.read("x\n6*x = -12"), ("figures", (1,), 5, -2, ()), ("figures", (1,), 7, -2, ()))

    def test_multipliers(self):
        for multipliers in [(), (1,), (1, 0), (1, 0, 0, 0), (1, 0, 7), (1, 0, 1), (0, 0, 1), (0, 0, 0), (0, 1, 0),
                            (1, 1, 0), (5, 0, 0)]:
            self.wrong(self.PATTERN, ("figures", multipliers, 5, 0, self.STEPS))
        pattern = Pattern.read("x y\nx = 2*y - 4\nx != y")
        self.right(pattern, ("figures", (1, 0), 3, 4, ()))
        self.wrong(pattern, ("figures", (1, 1), 3, 4, ()), ("figures", (1, -1), 3, 4, ()))

    def test_bases(self):
        for base in [2, 3, 4, 9, 25, 35, 49, 1, 0, -1, -5, -7, 10 ** 6, 5 * 199999]:
            self.wrong(self.PATTERN, ("figures", (1, 0, 0), base, 0, self.STEPS))
        pattern = Pattern.read("x y\n5*x = 8*y")
        for base, expected in [(2, False), (3, False), (5, False), (7, True), (11, True), (49, False), (77, False)]:
            self.check(expected, pattern, ("figures", (1,), base, 0, ()))
        self.check(False, pattern, ("figures", (7,), 7, 0, ()), ("figures", (-77,), 11, 0, ()))

    def test_partial_sum_of_zero(self):
        pattern = Pattern.read("x y z\nx - y + 3*z = 0")
        self.wrong(pattern, *[("figures", (1,), base, 0, ()) for base in [2, 5, 7, 11, 999983]])

    def test_constant(self):
        pattern = Pattern.read("x y z\nx + y = 3*z - 2\nz = 4*x - 6\nx != y")
        paper = ("figures", (1, 0, 0), 5)
        self.right(pattern, (*paper, 2, ()))
        self.wrong(pattern, *[(*paper, constant, ()) for constant in [0, 1, -2, 3, BIG]])

    def test_constant_fits_every_equation(self):
        pattern = Pattern.read("x y z\nx + y = 3*z - 2\nz = 4*x\nx != y")
        for constant in [0, 2]:
            self.wrong(pattern, ("figures", (1, 0, 0), 5, constant, ()), ("figures", (0, 1, 0), 5, constant, ()),
                       ("figures", (1, 1, 0), 7, constant, ()))

    def test_constant_need_not_fit_congruences(self):
        self.right(Pattern.read("x y\nx = 2*y - 4\nx = 1 (mod 2)\nx != y"), ("figures", (1, 0, 0), 3, 4, ()))

    def test_constant_from_one_on_needs_an_inequality(self):
        for constant in [1, 2, 7]:
            text = f"x y z\nx = 2*y - {constant}"
            self.wrong(Pattern.read(text), ("figures", (1,), 3, constant, ((("z",), ()),)))
            self.wrong(Pattern.read(text + "\nx = y (mod 3)"), ("figures", (1, 0), 3, constant, ((("z",), ()),)))
            self.right(Pattern.read(text + "\ny != x"), ("figures", (1, 0), 3, constant, ((("z",), ()),)))
        for constant in [0, -1, -7]:
            self.right(Pattern.read(f"x y\nx = 2*y + {-constant}"), ("figures", (1,), 3, constant, ()))
            self.right(Pattern.read(f"x y\nx = 2*y + {-constant}\nx != y"), ("figures", (1, 0), 3, constant, ()))

    def test_wrong_steps(self):
        paper = ("figures", (1, 0, 0), 5, 0)
        self.right(self.PATTERN, (*paper, self.STEPS))
        for steps in [((("u",), ()), (("v",), ())), ((("u", "v"), ()), (("u",), (("v", 1, 1),))), ((("u", "u"), ()),),
                      ((("u", "v"), (("x", 0, 1),)),), ((("u", "v"), (("u", 0, 1),)),), (((), ()), *self.STEPS),
                      ((("u", "v"), ()), (("x", "y", "z"), ())), ((("u", "v"), ()), ((), (("u", 0, 1),)))]:
            self.wrong(self.PATTERN, (*paper, steps))

    def test_names_that_the_pattern_does_not_have(self):
        paper = ("figures", (1, 0, 0), 5, 0)
        for steps in [((("u", "v", "w"), ()),), ((("u", "v"), ()), (("w",), ())), ((("u", "v"), (("w", 0, 1),)),),
                      ((("u", "w"), ()),), ((("w",), ()),)]:
            self.wrong(self.PATTERN, (*paper, steps))
        self.wrong(Pattern.read("x y\nx = 2*y"), ("figures", (1,), 3, 0, ((("z",), ()),)),
                   ("figures", (1,), 3, 0, ((("",), ()),)))

    def test_name_in_a_group_with_a_coefficient(self):
        pattern = Pattern.read("x y z u\nx + y = 3*z\nx + u = 0")
        self.right(Pattern.read("x y z u\nx + y = 3*z\nu - 1*u = 0"), ("figures", (1, 0), 5, 0, ((("u",), ()),)))
        self.wrong(pattern, ("figures", (1, 0), 5, 0, ((("u",), ()),)))
        # The two names in the group add up to 0, but they are in the combination.
        pattern = Pattern.read("x y z u\nx - y = 3*z\nu = 2*u")
        self.right(pattern, ("figures", (0, 1), 2, 0, ((("x", "y"), ()), (("z",), (("x", -3, 1),)))))
        self.wrong(pattern, ("figures", (1, 1), 2, 0, ((("x", "y"), ()), (("z",), (("x", -3, 1),)))),
                   ("figures", (1, 1), 5, 0, ((("x", "y"), ()),)))

    def test_name_in_no_group_without_a_coefficient(self):
        for text in ["x y z\nx = 2*y", "x y z\nx = 2*y\nx = y + z"]:
            pattern = Pattern.read(text)
            multipliers = (1, 0)[:len(pattern)]
            self.wrong(pattern, ("figures", multipliers, 3, 0, ()))
        self.right(Pattern.read("x y z\nx = 2*y"), ("figures", (1,), 3, 0, ((("z",), ()),)))
        self.wrong(self.PATTERN, ("figures", (1, 0, 0), 5, 0, ()))

    def test_every_name_in_a_group(self):
        self.wrong(Pattern.read("x y\nx = y"), ("figures", (0,), 2, 0, ((("x", "y"), ()),)),
                   ("figures", (1,), 2, 0, ((("x", "y"), ()),)))
        self.wrong(Pattern.read("x y"), ("figures", (), 2, 0, ((("x", "y"), ()),)),
                   ("figures", (), 2, 0, ()))

    def test_no_solution_is_whole(self):
        papers = [(self.PATTERN, base, 0) for base in [5, 7]]
        papers.append((Pattern.read("x y\n5*x = 8*y"), 7, 0))
        papers.append((Pattern.read("x y\nx = 2*y - 4\nx != y"), 3, 4))
        papers.append((Pattern.read("x y\nx = 2*y + 7"), 3, -7))
        for pattern, base, constant in papers:
            solutions = box(pattern)
            self.assertGreater(len(solutions), 0)
            for records in solutions:
                labels = {("own", record) if record <= constant else last_figure(record - constant, base)
                          for record in records.values()}
                self.assertGreater(len(labels), 1)


class Family(Checking):
    PATTERN = Pattern.read("x y z\nx + y = z + 3\nx != y\nx = 3 (mod 5)")
    STEPS = ((("x", "z"), ()), (("y",), (("x", 1, 1),)))

    def test_right(self):
        for apart in [(1, 0, 1), (0, 5, 5), (-2, 2, 0), (3, -1, 2), (BIG, -BIG, 0)]:
            self.right(self.PATTERN, ("family", 3, self.STEPS, apart))
        for steps in [((("z", "x"), ()), (("y",), (("z", -5, 5),))),
                      ((("z", "x"), ()), (("y",), (("z", 1, 3), ("x", 8, 6)))),
                      ((("y", "z"), ()), (("x",), (("y", 1, 1), ("z", 0, 9))))]:
            self.right(self.PATTERN, ("family", 3, steps, (1, 0, 1)))

    def test_pattern_without_lines(self):
        pattern = Pattern(["x", "y"])
        for steps in [((("x", "y"), ()),), ((("x",), ()), (("y",), ())), ((("y",), ()), (("x",), (("y", 5, 7),)))]:
            for constant, apart in [(0, (0, 0)), (-7, (1, 2)), (BIG, (5, 5))]:
                self.right(pattern, ("family", constant, steps, apart))

    def test_constant(self):
        for constant in [0, 2, 4, -3, 8, BIG]:
            self.wrong(self.PATTERN, ("family", constant, self.STEPS, (1, 0, 1)))
        self.right(Pattern.read("x y z\nx + y = z - 3"), ("family", -3, self.STEPS, (0, 0, 0)))
        self.right(Pattern.read("x y z\nx + y = z"), ("family", 0, self.STEPS, (0, 0, 0)))

    def test_constant_at_a_congruence_alone(self):
        pattern = Pattern.read("x y\nx != y\nx = 3*y (mod 7)\ny = 0 (mod 2)")
        for constant in range(-30, 30):
            self.check(constant % 14 == 0, pattern, ("family", constant, ((("x", "y"), ()),), (0, 1)))
        pattern = Pattern.read("x y z\nx + y = z + 3\nx = 2 (mod 5)")
        self.wrong(pattern, ("family", 3, self.STEPS, (1, 0, 1)), ("family", 2, self.STEPS, (1, 0, 1)))

    def test_wrong_steps(self):
        for steps in [(), self.STEPS[:1], self.STEPS[::-1], ((("x", "y", "z"), ()),), ((("x",), ()), *self.STEPS[1:]),
                      ((("x", "z"), ()), (("y",), (("x", 2, 1),))), ((("x", "z"), ()), (("y",), ())),
                      ((("x", "z"), ()), (("y",), (("x", -1, -1),))), ((("x", "z"), ()), (("y",), (("x", 1, 0),))),
                      ((("x", "z"), ()), (("y",), (("x", 1, 2), ("x", 1, 2)))),
                      ((("x", "z"), ()), (("y",), (("x", 1, 1),)), ((), ())),
                      ((("x", "z"), ()), (("y",), (("x", 1, 1), ("y", 0, 1))))]:
            self.wrong(self.PATTERN, ("family", 3, steps, (1, 0, 1)))

    def test_name_in_no_group(self):
        pattern = Pattern.read("x y z\nx = y")
        self.right(pattern, ("family", 4, ((("x", "y"), ()), (("z",), ())), (0, 0, 0)),
                   ("family", 4, ((("x", "z", "y"), ()),), (1, 1, 0)))
        self.wrong(pattern, ("family", 4, ((("x", "y"), ()),), (0, 0, 0)), ("family", 4, ((("z",), ()),), (0, 0, 0)),
                   ("family", 4, (), (0, 0, 0)))

    def test_name_twice(self):
        pattern = Pattern.read("x y z\nx = y")
        for steps in [((("x", "y"), ()), (("z", "z"), ())), ((("x", "y", "z"), ()), (("z",), ())),
                      ((("x", "y"), ()), (("z",), ()), (("z",), ())),
                      ((("x", "y"), ()), (("x", "y"), ()), (("z",), ()))]:
            self.wrong(pattern, ("family", 4, steps, (0, 0, 0)))

    def test_names_that_the_pattern_does_not_have(self):
        pattern = Pattern.read("x y z\nx = y")
        for steps in [((("x", "y"), ()), (("z", "w"), ())), ((("x", "y", "z"), ()), (("w",), ())),
                      ((("x", "y"), ()), (("z",), (("w", 0, 1),))), ((("x", "y"), ()), (("w",), ()))]:
            self.wrong(pattern, ("family", 4, steps, (0, 0, 0)))

    def test_length_of_apart(self):
        for apart in [(), (1,), (1, 0), (1, 0, 1, 0), (1, 0, 1, 0, 1)]:
            self.wrong(self.PATTERN, ("family", 3, self.STEPS, apart))
        self.wrong(Pattern(["x"]), ("family", 3, ((("x",), ()),), ()), ("family", 3, ((("x",), ()),), (0, 0)))

    def test_apart_that_does_not_add_up(self):
        for apart in [(1, 0, 0), (1, 0, 2), (0, 1, 0), (-1, 1, 1)]:
            self.wrong(self.PATTERN, ("family", 3, self.STEPS, apart))
        pattern = Pattern.read("x y z\nx = y\n2*y = 2*z\nx = z (mod 4)")
        steps = ((("x", "y", "z"), ()),)
        self.right(pattern, ("family", 4, steps, (3, 3, 3)))
        self.wrong(pattern, ("family", 4, steps, (3, 3, 2)), ("family", 4, steps, (2, 3, 3)))

    def test_apart_looks_at_equations_alone(self):
        pattern = Pattern.read("x y\nx = y (mod 4)\nx != y")
        self.right(pattern, ("family", 1, ((("x", "y"), ()),), (3, 1)), ("family", 1, ((("x", "y"), ()),), (0, 1)))

    def test_equal_integers_at_an_inequality(self):
        self.wrong(self.PATTERN, ("family", 3, self.STEPS, (0, 0, 0)), ("family", 3, self.STEPS, (2, 2, 4)))
        pattern = Pattern.read("x y z\nx != y\ny != z")
        steps = ((("x", "y", "z"), ()),)
        self.right(pattern, ("family", 0, steps, (1, 0, 1)), ("family", 0, steps, (1, 0, -1)))
        self.wrong(pattern, ("family", 0, steps, (1, 1, 0)), ("family", 0, steps, (0, 1, 1)),
                   ("family", 0, steps, (BIG, BIG, 0)))

    def test_inequality_and_same(self):
        pattern = Pattern.read("x y\nx = y\nx != y")
        for apart in [(0, 0), (1, 1), (0, 1), (1, 0)]:
            self.wrong(pattern, ("family", 0, ((("x", "y"), ()),), apart))


def changed(source, item):
    """Return the item with a small change somewhere in it."""
    if isinstance(item, tuple):
        kind = source.randint(0, 5)
        if not item or kind == 0:
            return (*item, *item[:1])
        place = source.randrange(len(item))
        if kind == 1:
            return item[:place] + item[place + 1:]
        if kind == 2:
            return item[::-1]
        return (*item[:place], changed(source, item[place]), *item[place + 1:])
    if isinstance(item, str):
        return source.choice(["x", "y", "z", "a", "c", "q"])
    return source.choice([item + 1, item - 1, -item, 2 * item, 0, item + 7])


class ManyPapers(Checking):
    def patterns(self):
        return [pattern for _, pattern in all_patterns()] + random_patterns(54, 300)

    def test_papers_of_verdicts(self):
        for pattern in self.patterns():
            self.right(pattern, decide(pattern).paper)

    def test_papers_of_other_patterns(self):
        patterns = self.patterns()[:120]
        papers = [decide(pattern).paper for pattern in patterns]
        found = {True: 0, False: 0}
        for pattern, paper in itertools.product(patterns, papers):
            # The base and the multipliers of one pattern tell nothing about another one.
            expected = right_paper(pattern, paper)
            found[expected] += 1
            self.check(expected, pattern, paper)
        self.assertGreater(min(found.values()), 300)

    def test_changed_papers(self):
        source = random.Random(48)
        found = {True: 0, False: 0}
        for pattern in self.patterns():
            for _ in range(30):
                kind, *items = decide(pattern).paper
                place = source.randrange(len(items))
                items[place] = changed(source, items[place])
                if kind == "figures" and items[1] > 10 ** 6 or self.is_malformed(kind, items):
                    continue
                expected = right_paper(pattern, (kind, *items))
                found[expected] += 1
                self.check(expected, pattern, (kind, *items))
        self.assertGreater(min(found.values()), 300)

    def is_malformed(self, kind, items):
        """Return True if the steps of a paper have not the form that callers keep."""
        if kind not in ("figures", "family"):
            return False
        steps = items[3 if kind == "figures" else 1]
        return not all(isinstance(step, tuple) and len(step) == 2
                       and all(isinstance(name, str) for name in step[0])
                       and all(isinstance(triple, tuple) and [type(item) for item in triple] == [str, int, int]
                               for triple in step[1]) for step in steps)

    def test_no_certificates_of_both_sorts(self):
        papers = {kind: [decide(pattern).paper for pattern in patterns_of(kind)]
                  for kind in ["rests", "single", "same", "figures", "family"]}
        for _, pattern in all_patterns():
            sure = any(check_paper(pattern, paper) for kind in ["single", "family"] for paper in papers[kind])
            split = any(check_paper(pattern, paper) for kind in ["rests", "same", "figures"] for paper in papers[kind])
            self.assertNotEqual((sure, split), (True, True))
            self.assertEqual(sure or split, True)

    def test_bounds(self):
        names = ["a", "b", "c", "d", "e", "f"]
        most = dict.fromkeys(names, 20)
        pattern = Pattern(names, [Equation(Form(most, -960)), Equation(Form(most, -960)),
                                  Congruence(Form(most, 1000), 40)])
        self.right(pattern, ("single", 8))
        self.wrong(pattern, ("single", -8), ("single", 48), ("rests", (1, 1, 0), 7), ("rests", (1, -1, 0), 7))
        line = Equation(Form({**most, "f": -19}, 648))
        pattern = Pattern(names, [line] * 5)
        self.right(pattern, decide(pattern).paper, ("figures", (1, 0, 0, 0, 0), 11, -8, ()))
        self.wrong(pattern, ("figures", (1, 0, 0, 0, 0), 3, -8, ()), ("figures", (1, -1, 0, 0, 0), 11, -8, ()),
                   ("figures", (1, 0, 0, 0, 0), 7, -8, ()))
        self.assertEqual(decide(pattern).kind, "figures")
        pattern = Pattern(names, [Equation(Form({**most, "a": -20}, 960)), *[Unlike("a", name) for name in "bcde"]])
        steps = ((("a", "b"), ()), (("c", "d", "e", "f"), (("a", -4, 1),)))
        self.right(pattern, decide(pattern).paper, ("family", -12, steps, (5, 1, 1, 1, 1, 1)))
        self.wrong(pattern, ("family", -12, steps, (5, 5, 0, 0, 0, 0)), ("family", 12, steps, (5, 1, 1, 1, 1, 1)))


class Example(unittest.TestCase):
    def test_figures(self):
        pattern = Pattern.read("x y z\nx + y = 3*z")
        self.assertEqual([check_paper(pattern, ("figures", (1,), 5, 0, ())),
                          check_paper(pattern, ("figures", (1,), 3, 0, ()))], [True, False])

    def test_family(self):
        steps = ((("x", "z"), ()), (("y",), (("x", 1, 1),)))
        self.assertIs(check_paper(Pattern.read("x y z\nx + y = z + 3\nx != y"), ("family", 3, steps, (1, 0, 1))), True)

    def test_arguments_by_name(self):
        self.assertIs(check_paper(paper=("single", 4), pattern=Pattern(["x"])), True)


if __name__ == "__main__":
    unittest.main()
