"""Splitting rows: rows and bases that no equal last figures of records get past."""

from oneshard.columns import common_length, dot_product, harmless_factor, shortened
from oneshard.elimination import kernel
from oneshard.errors import ZeroSum
from oneshard.ratios import common_divisor
from oneshard.staircases import reached


def partial_sums(numbers):
    """Return the sums of all nonempty selections; the binary figures of index + 1 tell which are selected."""
    sums = []
    for number in numbers:
        sums = sums + [number] + [total + number for total in sums]
    return sums


def _shares_divisor(base, numbers):
    """Return True if the base has a common divisor above 1 with one of the numbers."""
    for number in numbers:
        if common_divisor(number, base) > 1:
            return True
    return False


def least_base(numbers):
    """Return the least integer from 2 on that has no common divisor above 1 with any partial sum."""
    sums = partial_sums(numbers)
    if 0 in sums:
        raise ZeroSum(tuple(numbers))
    base = 2
    while _shares_divisor(base, sums):
        base = base + 1
    return base


def is_prime(number):
    """Return True if the integer is a prime, otherwise False."""
    if number < 4:
        return number > 1
    if number % 2 == 0:
        return False
    factor = 3
    while factor * factor <= number:
        if number % factor == 0:
            return False
        factor = factor + 2
    return True


def _splitting_row(rows, columns):
    """Return a sum of multiples of the rows; its product with a sum of columns is 0 only if those of all rows are."""
    found = [0] * common_length(columns)
    for row in rows:
        sums = partial_sums([dot_product(found, column) for column in columns])
        others = partial_sums([dot_product(row, column) for column in columns])
        factor = harmless_factor(sums, others)
        found = [first + factor * second for first, second in zip(found, row)]
    return shortened(found)


def split(columns):
    """Return None if every column is reachable, otherwise a row that splits the other ones, and its base."""
    numbers = reached(columns)
    others = [column for number, column in enumerate(columns) if number not in numbers]
    if len(others) == 0:
        return None
    # No sum of other columns is a mixture of the reachable ones, because its columns would be reachable, too.
    # So for each such sum, at least one of these rows has a product that is not 0.
    rows = kernel([columns[number] for number in numbers], common_length(columns))
    row = _splitting_row(rows, others)
    return (row, least_base([dot_product(row, column) for column in others]))


def check_split(columns, row, base):
    """Return True if no partial sum of the products that are not 0 has a common divisor with the base."""
    if base < 2 or any([len(column) != len(row) for column in columns]):
        return False
    products = [dot_product(row, column) for column in columns]
    others = [item for item in products if item != 0]
    return len(others) > 0 and not _shares_divisor(base, partial_sums(others))
