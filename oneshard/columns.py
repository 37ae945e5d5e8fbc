"""What elimination, steps, splitting rows and verdicts have in common: columns, rows and their products."""

from oneshard.errors import BadLength
from oneshard.ratios import common_divisor


def check_lengths(columns, length):
    """Raise BadLength for the first column or row that does not have the length."""
    for column in columns:
        if len(column) != length:
            raise BadLength(len(column))


def common_length(columns):
    """Return the length of all columns, 0 if there are none."""
    length = len(columns[0]) if len(columns) > 0 else 0
    check_lengths(columns, length)
    return length


def dot_product(row, column):
    """Return the product of a row and a column of the same length."""
    return sum([first * second for first, second in zip(row, column)])


def shortened(row):
    """Return the row, as a tuple, divided by the greatest integer that divides all its items."""
    divisor = 0
    for item in row:
        divisor = common_divisor(divisor, item)
    if divisor == 0:
        return tuple(row)
    return tuple([item // divisor for item in row])


def harmless_factor(sums, others):
    """Return the least factor from 0 on for which no sum + factor * other is 0 unless both are 0."""
    factor = 0
    # A pair rules out one factor at most, so there are not more tries than pairs.
    while any([other != 0 and total + factor * other == 0 for total, other in zip(sums, others)]):
        factor = factor + 1
    return factor
