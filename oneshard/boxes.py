"""All solutions of a pattern within a box."""

from oneshard.errors import BadCount, OutOfRange

MOST_COMBINATIONS = 4096


def _count_combinations(names, limit):
    """Return the limit to the power of the number of names."""
    count = 1
    for _ in names:
        count = count * limit
    return count


def _records(names, limit, number):
    """Return the combination with this number, counted from 0 in the order in which solutions come."""
    records = []
    # The last name's record changes fastest, as the last figure of a counter does.
    for _ in names:
        number, figure = divmod(number, limit)
        records.append(figure + 1)
    return dict(zip(names, records[::-1]))


def box_solutions(pattern, limit):
    """Yield every solution whose records are all at most the limit, in ascending order."""
    if limit < 1:
        raise OutOfRange(limit)
    count = _count_combinations(pattern.names, limit)
    if count > MOST_COMBINATIONS:
        raise BadCount(count)
    for number in range(count):
        records = _records(pattern.names, limit, number)
        if pattern.holds(records):
            yield records
