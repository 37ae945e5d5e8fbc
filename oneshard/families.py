"""Families of solutions: a form for each name, in numbers that may be chosen."""

from oneshard.forms import Form
from oneshard.linear import has_inequality
from oneshard.ratios import common_multiple


def number_name(place):
    """Return the name of the number that belongs to a step; places are counted from 1."""
    return f"y{place}"


def number_count(pattern, paper):
    """Return how many numbers the forms of the family have."""
    _, _, steps, _ = paper
    return len(steps) + 1 if has_inequality(pattern) else len(steps)


def lead_of(paper):
    """Return the least common multiple of all denominators in the steps of the paper."""
    _, _, steps, _ = paper
    return common_multiple([denominator for _, triples in steps for _, _, denominator in triples])


def family_forms(pattern, paper):
    """Return a form for each name of the pattern, for a certificate of the kind "family"."""
    _, constant, steps, apart = paper
    lead = lead_of(paper)
    coefficients = {name: {} for name in pattern.names}
    for place, (group, triples) in enumerate(steps, 1):
        for name in group:
            coefficients[name][number_name(place)] = lead
        for name, numerator, denominator in triples:
            coefficients[name][number_name(place)] = -(lead // denominator) * numerator
    if has_inequality(pattern):
        for name, gap in zip(pattern.names, apart):
            coefficients[name][number_name(len(steps) + 1)] = gap
    return {name: Form(coefficients[name], constant) for name in pattern.names}
