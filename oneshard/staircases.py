"""Steps of columns: which columns add up to mixtures of the columns of earlier steps."""

from oneshard.columns import common_length, dot_product
from oneshard.elimination import kernel, mixture
from oneshard.ratios import common_multiple


def _right_group(group, count, earlier):
    """Return True if the group has numbers of columns only, none twice and none of an earlier group."""
    if len(group) == 0:
        return False
    for place, number in enumerate(group):
        if not 0 <= number < count or number in earlier or number in group[:place]:
            return False
    return True


def _right_mixture(triples, earlier):
    """Return True if the triples have numbers of earlier groups only, none twice, and denominators from 1 on."""
    numbers = [number for number, _, _ in triples]
    for place, (number, _, denominator) in enumerate(triples):
        if number not in earlier or number in numbers[:place] or denominator < 1:
            return False
    return True


def _column_sum(columns, group):
    """Return the sum of the columns of a group with at least one number."""
    chosen = [columns[number] for number in group]
    return [sum(items) for items in zip(*chosen)]


def _stands_for(columns, triples, total):
    """Return True if the total is the sum for which the triples stand."""
    multiple = common_multiple([denominator for _, _, denominator in triples])
    for place, item in enumerate(total):
        parts = [columns[number][place] * numerator * (multiple // denominator)
                 for number, numerator, denominator in triples]
        if sum(parts) != item * multiple:
            return False
    return True


def check_steps(columns, steps):
    """Return True if the steps are right for the columns, otherwise False."""
    common_length(columns)
    earlier = []
    for group, triples in steps:
        if not _right_group(group, len(columns), earlier) or not _right_mixture(triples, earlier):
            return False
        if not _stands_for(columns, triples, _column_sum(columns, group)):
            return False
        earlier.extend(group)
    return True


def _selections(numbers):
    """Return all nonempty selections from the numbers, each in their order."""
    found = []
    for number in numbers:
        found = found + [[number]] + [[*selection, number] for selection in found]
    return found


def _next_group(columns, earlier):
    """Return a group that can follow the columns of earlier groups, or an empty list if there is none."""
    rows = kernel([columns[number] for number in earlier], common_length(columns))
    best = []
    for group in _selections([number for number in range(len(columns)) if number not in earlier]):
        total = _column_sum(columns, group)
        # Large groups make few steps.
        if len(group) > len(best) and all([dot_product(row, total) == 0 for row in rows]):
            best = group
    return best


def _next_step(columns, earlier, group):
    """Return the step with this group."""
    _, fractions = mixture([columns[number] for number in earlier], _column_sum(columns, group))
    triples = [(number, *fraction) for number, fraction in zip(earlier, fractions) if fraction[0] != 0]
    return (tuple(group), tuple(triples))


def climb(columns):
    """Return right steps whose groups contain all reachable columns."""
    # If more columns are earlier, a group can still follow without those that became earlier columns.
    # So whatever group comes next, every column that can be reached stays so.
    steps = []
    earlier = []
    group = _next_group(columns, earlier)
    while len(group) > 0:
        steps.append(_next_step(columns, earlier, group))
        earlier = sorted(earlier + group)
        group = _next_group(columns, earlier)
    return tuple(steps)


def reached(columns):
    """Return the numbers of all reachable columns in ascending order."""
    return sorted([number for group, _ in climb(columns) for number in group])
