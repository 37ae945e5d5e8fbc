"""Verdicts: whether a pattern is sure, with a certificate."""

from oneshard.columns import dot_product, harmless_factor
from oneshard.constants import constants
from oneshard.elimination import kernel, mixture
from oneshard.linear import equation_rows, has_inequality, name_columns, named_steps, spread
from oneshard.lines import Unlike
from oneshard.ratios import common_multiple
from oneshard.splitting import split
from oneshard.staircases import climb

SURE_KINDS = ("single", "family")


class Verdict:
    """The kind of a pattern, and the paper that is the certificate for it."""

    def __init__(self, paper):
        self.kind = paper[0]
        self.paper = paper

    @property
    def sure(self):
        """Return True if the pattern is sure, otherwise False."""
        return self.kind in SURE_KINDS


def _inequalities(pattern):
    """Return pairs (line number, row) of all inequalities; the row has 1 at the first name and -1 at the second."""
    found = []
    for number, line in enumerate(pattern.lines):
        if line.KIND == Unlike.KIND:
            signs = {line.first: 1, line.second: -1}
            found.append((number, [signs.get(name, 0) for name in pattern.names]))
    return found


def _find_single(pattern, found):
    """Return the paper of the least record that fits every line, or None if there is none."""
    if has_inequality(pattern):
        return None
    kind, constant, *steps = found
    if constant >= 1:
        return ("single", constant)
    return ("single", constant + steps[0]) if kind == "free" else None


def _find_same(pattern):
    """Return the paper of the first inequality whose records the equations make equal, or None."""
    rows = equation_rows(pattern)
    for number, target in _inequalities(pattern):
        # Some integer fits, so the constant of a combination whose total is 0 is 0, too.
        kind, fractions = mixture(rows, target)
        if kind == "mixture":
            factor = common_multiple([d for _, d in fractions])
            return ("same", spread(pattern, [n * (factor // d) for n, d in fractions]), factor, number)
    return None


def _find_figures(pattern, constant):
    """Return the paper of a base that splits the names that are not reachable, or None if all are."""
    columns = name_columns(pattern)
    found = split(columns)
    if found is None:
        return None
    row, base = found
    return ("figures", spread(pattern, row), base, constant, named_steps(pattern, climb(columns)))


def _apart(pattern):
    """Return an integer for each name, so that they are 0 in all equations and differ in all inequalities."""
    gaps = [row for _, row in _inequalities(pattern)]
    found = [0 for _ in pattern.names]
    for part in kernel(equation_rows(pattern), len(pattern.names)):
        factor = harmless_factor([dot_product(gap, found) for gap in gaps], [dot_product(gap, part) for gap in gaps])
        found = [first + factor * second for first, second in zip(found, part)]
    return tuple(found)


def _find_family(pattern, constant):
    """Return the paper of a family of solutions; every name is reachable, and no two records are made equal."""
    return ("family", constant, named_steps(pattern, climb(name_columns(pattern))), _apart(pattern))


def _find_paper(pattern):
    """Return a certificate of the first kind that the pattern has."""
    found = constants(pattern)
    if found[0] == "none":
        _, multipliers, modulus = found
        return ("rests", multipliers, modulus)
    constant = found[1]
    paper = _find_single(pattern, found)
    if paper is None:
        paper = _find_same(pattern)
    if paper is None:
        paper = _find_figures(pattern, constant)
    if paper is None:
        paper = _find_family(pattern, constant)
    return paper


def decide(pattern):
    """Return the verdict of the pattern."""
    return Verdict(_find_paper(pattern))
