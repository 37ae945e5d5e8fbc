"""What several tests have in common: patterns of all kinds, patterns at the bounds, and rules."""

import itertools
import random

from oneshard.boxes import box_solutions
from oneshard.forms import Form
from oneshard.lines import Congruence, Equation, Unlike
from oneshard.patterns import Pattern
from oneshard.rules import Rule

SURE = ("single", "family")

# The greatest limit of a box for each number of names that keeps the box quick to go through.
LIMITS = {1: 600, 2: 60, 3: 15, 4: 8, 5: 5, 6: 4}

# Patterns by the kind of their verdict.
TEXTS = {
    "rests": [
        "x y z\nx = y + 1",
        "x\n0 = 3",
        "x\n0 = 6",
        "x y\nx = 3\ny = 4",
        "x y\n2*x = 1 + 0*y",
        "x y z\n2*x + y = z + 5\nx + y = 4 (mod 6)",
        "x y\nx + y = 1 (mod 2)",
        "x y\nx = 1 (mod 4)\ny = 2 (mod 6)",
        "x y\nx = y + 7\nx != y",
        "x y\nx = 0 (mod 5)\nx = y + 0\nx = 4\nx != y",
        "a b c d e f\n20*a + 20*b + 20*c + 20*d + 20*e + 20*f = 1000\na != b\nb != c\nc != d\nd = e (mod 40)",
    ],
    "single": [
        "x",
        "x y z",
        "x y z\nx + y = z + 3",
        "x y\nx = 7",
        "x\nx = 1",
        "x y\nx = y",
        "x y\nx = y (mod 7)",
        "x y\nx = 0 (mod 6)\ny = 4 (mod 10)\nx = y (mod 5)",
        "x y\n3*x = 5*y - 14",
        "a b c d e f\n20*a = 1000\n20*b - 20*c + 20*d - 20*e + 20*f = 1000\na = f\na = 10 (mod 40)\nb = 0 (mod 25)",
    ],
    "same": [
        "x y z\nz = 0\nx = y\nx != y",
        "x y\nx = y\nx != y",
        "x y z\nx + y = 2*z\nx + z = 2*y\ny != z",
        "x y z\n3*x - 3*z = 0\ny = 2*z - 4\nz != x",
        "x y z\nx = y (mod 2)\nx != z\n2*y - 2*x = 0\ny != x\nx != y",
        "a b c d e f\n20*a - 20*b = 0\n20*b - 20*c = 0\n20*c - 20*d = 0\n20*d - 20*e = 0\na != e",
    ],
    "figures": [
        "x y z\nx + y = 3*z",
        "x y\nx = 2*y",
        "x y\nx = 2*y - 4\nx != y",
        "x y z\nx + y = 3*z + 5",
        "x y\nx + y = 0",
        "x\nx = 0",
        "x\nx = -5",
        "x y z\nx = y\nz = 2*z",
        "x y z u\nx + y = 3*z - 3\nx - u = 0\ny != z",
        "x y z u\nx + y = z\nu = 2*u",
        "x y z\nx + y = z + 3\nx = 2*z - 3\nx != y\nz = 3 (mod 5)",
        "a b c d e f\n20*a + 19*b + 18*c - 17*d - 16*e - 15*f = 9\na != b",
    ],
    "family": [
        "x y z\nx + y = z",
        "x y\nx != y",
        "x y z\nx + y = z + 3\nx != y",
        "x y z\nx + y = z - 3",
        "x y z\nx + y = 2*z\nx != y\ny != z\nx != z",
        "x y z\nx + y = z\nx != y\nx = 0 (mod 5)",
        "x y\nx = 3*y (mod 7)\nx != y",
        "a b c d e f\na = b\nd + e = f\nc + e = b (mod 12)\na != f",
        "x y z u v\nx - z + u = 0\n6*x - 6*z - 4*y + 6*v = 0\nu != v",
        "x y z u v\nx - z + u = 4\n6*x - 6*z - 4*y + 6*v = 8\nu != v",
        "x y z u v\nx - z + 2*u = 8\nu - v + 3*y = 12\nx != z",
        "a b c d e f\na - b + 2*e = 0\n2*c - 2*d + e + 3*f = 0",
        "a b c d e f\n20*a - 20*b + 17*c - 19*d + 13*e = 11*f\na != c\nf != e\nb = c (mod 40)",
        "a b c d e f\n20*a - 20*b + 19*c = -1000 + 19*d + 20*e\na != b\na != c\na != d\na != e",
    ],
}


def pattern_of(text):
    return Pattern.read(text)


def all_patterns():
    """Return pairs (kind, pattern) of all texts."""
    return [(kind, Pattern.read(text)) for kind, texts in TEXTS.items() for text in texts]


def patterns_of(*kinds):
    return [pattern for kind, pattern in all_patterns() if kind in kinds]


def raised(test, error, word, call, *arguments, **more):
    """Return an attribute of the error that a call raises."""
    with test.assertRaises(error) as caught:
        call(*arguments, **more)
    test.assertIs(type(caught.exception), error)
    return getattr(caught.exception, word) if word else None


def random_form(source, names, most, fitting):
    """Return a form; if fitting is an integer, it often fits the form."""
    coefficients = {name: source.randint(-most, most) for name in names if source.random() < 0.8}
    constant = -sum(coefficients.values()) * fitting
    if source.random() < 0.2 or abs(constant) > 1000:
        constant = source.choice([0, source.randint(-8, 8)])
    return Form(coefficients, constant)


def random_line(source, names, most, fitting):
    kind = source.random()
    form = random_form(source, names, most, fitting)
    if kind < 0.6:
        return Equation(form)
    if kind < 0.75 or len(names) == 1:
        return Congruence(form, source.choice([2, 3, 4, 5, 6, 12, 40]))
    return Unlike(*source.sample(names, 2))


def random_pattern(source, most_names=6, most_lines=5, most=3):
    names = source.sample(["x", "y", "z", "a", "b1", "mode"], source.randint(1, most_names))
    fitting = source.randint(-3, 5)
    lines = [random_line(source, names, most, fitting) for _ in range(source.randint(0, most_lines))]
    return Pattern(names, lines)


def random_patterns(seed, count, **more):
    source = random.Random(seed)
    return [random_pattern(source, **more) for _ in range(count)]


def some_rules(constant):
    """Return rules with each kind of factor, some with shifts that equal the constant of a family."""
    shifts = [0, constant, constant - 1, constant + 6, -8, 10000, -10000]
    rules = [Rule.one_shard()]
    rules.extend(Rule.remainder(modulus, shift=shift) for modulus, shift in zip([1, 2, 12, 9973, 10000, 7, 64], shifts))
    rules.extend(Rule.last_figure(prime, shift=shift) for prime, shift in itertools.product([2, 3, 9973], shifts))
    rules.extend(Rule.leading(bits, modulus, shift=shift)
                 for bits, modulus, shift in zip([1, 2, 3, 8, 8, 5, 4], [1, 6, 5, 4, 3, 2, 1], shifts))
    full = Rule.one_shard()
    for prime, bits, modulus, shift in zip([2, 3, 2, 9967], [8, 1, 4, 7], [6, 5, 4, 3], shifts):
        full = full * Rule.last_figure(prime, shift=shift) * Rule.leading(bits, modulus, shift=-shift)
        full = full * Rule.remainder(9990 + bits, shift=shift)
    rules.append(full)
    return rules


def random_rule(source, constant):
    rule = Rule.one_shard()
    for _ in range(source.choice([1, 2, 3, 12])):
        shift = source.choice([0, constant, constant, constant + source.randint(-9, 9), source.randint(-10000, 10000)])
        rule = rule * source.choice([
            Rule.remainder(source.choice([1, 2, 3, 4, 6, 9973, source.randint(1, 10000)]), shift=shift),
            Rule.last_figure(source.choice([2, 2, 3, 3, 5, 7, 9973]), shift=shift),
            Rule.leading(source.randint(1, 8), source.randint(1, 6), shift=shift)])
    return rule


def box(pattern):
    """Return the solutions of a small box."""
    return list(box_solutions(pattern, LIMITS[len(pattern.names)]))


def last_figure(number, prime):
    """Return the last nonzero figure by the words of point 41, from all figures."""
    figures = []
    while number > 0:
        figures.append(number % prime)
        number //= prime
    return next(figure for figure in figures if figure != 0)
