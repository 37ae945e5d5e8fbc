"""Checking certificates, without any search."""

from oneshard.columns import dot_product
from oneshard.constants import check_rests
from oneshard.forms import Form
from oneshard.linear import (combination, equation_rows, fits, grouped_names, has_inequality, only_equations,
                             right_steps)
from oneshard.lines import Equation, Unlike
from oneshard.splitting import is_prime, partial_sums


def _check_single(pattern, constant):
    """Return True if the constant is a record that every line takes for all names."""
    return constant >= 1 and not has_inequality(pattern) and all([fits(line, constant) for line in pattern.lines])


def _check_same(pattern, multipliers, factor, number):
    """Return True if the equations make the two records of an inequality equal."""
    if not only_equations(pattern, multipliers) or factor < 1 or not 0 <= number < len(pattern.lines):
        return False
    line = pattern.lines[number]
    if line.KIND != Unlike.KIND:
        return False
    return combination(pattern, multipliers) == Form({line.first: factor, line.second: -factor})


def _splits(pattern, form, base, steps):
    """Return True if the form has exactly the names in no group, and the base divides no partial sum."""
    grouped = grouped_names(steps)
    if any([(name in form) == (name in grouped) for name in pattern.names]):
        return False
    sums = partial_sums(list(form.coefficients.values()))
    return len(sums) > 0 and all([total % base != 0 for total in sums])


def _check_figures(pattern, multipliers, base, constant, steps):
    """Return True if no solution is whole under the last figures behind the constant."""
    if not only_equations(pattern, multipliers) or not is_prime(base):
        return False
    if not all([fits(line, constant) for line in pattern.lines if line.KIND == Equation.KIND]):
        return False
    if constant >= 1 and not has_inequality(pattern):
        return False
    return right_steps(pattern, steps) and _splits(pattern, combination(pattern, multipliers), base, steps)


def _keeps_apart(pattern, apart):
    """Return True if the integers are 0 in all equations and differ in all inequalities."""
    if len(apart) != len(pattern.names) or any([dot_product(row, apart) != 0 for row in equation_rows(pattern)]):
        return False
    values = dict(zip(pattern.names, apart))
    return all([line.holds(values) for line in pattern.lines if line.KIND == Unlike.KIND])


def _check_family(pattern, constant, steps, apart):
    """Return True if the constant, the steps and the integers make a family of solutions."""
    if not all([fits(line, constant) for line in pattern.lines if line.KIND != Unlike.KIND]):
        return False
    grouped = grouped_names(steps)
    if not right_steps(pattern, steps) or not all([name in grouped for name in pattern.names]):
        return False
    return _keeps_apart(pattern, apart)


def check_paper(pattern, paper):
    """Return True if the paper is a certificate of the pattern, otherwise False."""
    kind, *items = paper
    if kind == "rests":
        return check_rests(pattern, *items)
    if kind == "single":
        return _check_single(pattern, *items)
    if kind == "same":
        return _check_same(pattern, *items)
    if kind == "figures":
        return _check_figures(pattern, *items)
    return _check_family(pattern, *items)
