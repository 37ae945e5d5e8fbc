"""Elimination with integers: mixtures of columns, and kernels of rows."""

from oneshard.columns import check_lengths, dot_product, shortened
from oneshard.ratios import common_multiple, lowest


def _cleared(row, known, place):
    """Return a mixture of both rows that has 0 at the place, where the known row does not have 0."""
    items = [known[place] * item - row[place] * other for item, other in zip(row, known)]
    # Without this, the integers would grow with every row.
    return shortened(items)


def _first_place(row):
    """Return the index of the first item that is not 0, or None if all are 0."""
    for place, item in enumerate(row):
        if item != 0:
            return place
    return None


def _solved(rows):
    """Return pairs (place, row) for rows with the same mixtures; each is the only one without a 0 at its place."""
    solved = []
    for row in rows:
        rest = row
        for place, known in solved:
            rest = _cleared(rest, known, place)
        lead = _first_place(rest)
        if lead is not None:
            solved = [(place, _cleared(known, rest, lead)) for place, known in solved]
            solved.append((lead, rest))
    return solved


def _kernel_item(solved, width, free):
    """Return the tuple of the kernel that has 0 at each place without a solved row, except for the free place."""
    multiple = common_multiple([row[place] for place, row in solved])
    items = [0] * width
    items[free] = multiple
    for place, row in solved:
        items[place] = -row[free] * multiple // row[place]
    return shortened(items)


def kernel(rows, width):
    """Return independent tuples of which every tuple that has the product 0 with each row is a mixture."""
    check_lengths(rows, width)
    solved = _solved(rows)
    places = [place for place, _ in solved]
    return [_kernel_item(solved, width, free) for free in range(width) if free not in places]


def _fractions(columns, target):
    """Return the fractions of a target that is a mixture of the columns."""
    rows = [[column[place] for column in columns] + [item] for place, item in enumerate(target)]
    # The target is a mixture, so the last place has no solved row, and the last tuple is free there.
    weights = kernel(rows, len(columns) + 1)[-1]
    return tuple([lowest(-weight, weights[-1]) for weight in weights[:-1]])


def mixture(columns, target):
    """Return ("mixture", fractions), or ("row", row) if the target is no mixture of the columns."""
    check_lengths(columns, len(target))
    for row in kernel(columns, len(target)):
        if dot_product(row, target) != 0:
            return ("row", row)
    return ("mixture", _fractions(columns, target))
