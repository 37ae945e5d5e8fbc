"""Rules, which give each record a label."""

from oneshard.errors import BadCount, NotPrime, OutOfRange
from oneshard.splitting import is_prime

MOST_FACTORS = 12
MOST_BITS = 8
MOST_LENGTHS = 6
REMAINDER = "remainder"
LAST_FIGURE = "last figure"
LEADING = "leading"


def _last_figure(number, prime):
    """Return the last figure that is not 0 when the number is written in the base."""
    while number % prime == 0:
        number = number // prime
    return number % prime


def _leading_figures(number, bits, modulus):
    """Return the entry of the first figures, or None if the number has too few."""
    length = number.bit_length()
    if length < bits:
        return None
    return ("leading", number >> (length - bits), length % modulus)


def _entry(factor, record):
    """Return what a factor gives the label of a record."""
    kind, first, *others = factor
    number = record - factor[-1]
    if number < 1:
        return ("own", record)
    if kind == REMAINDER:
        return ("rest", number % first)
    if kind == LAST_FIGURE:
        return ("figure", _last_figure(number, first))
    entry = _leading_figures(number, first, others[0])
    return ("own", record) if entry is None else entry


def _label(factors, record):
    """Return the label of a record."""
    if record < 1:
        raise OutOfRange(record)
    return tuple([_entry(factor, record) for factor in factors])


class Rule:
    """A product of factors, each of which looks at a part of a record."""

    def __init__(self, factors):
        self._factors = tuple(factors)

    @classmethod
    def one_shard(cls):
        """Return the rule without a factor."""
        return cls(())

    @classmethod
    def remainder(cls, modulus, *, shift=0):
        """Return the rule that looks at the remainder modulo an integer."""
        if modulus < 1:
            raise OutOfRange(modulus)
        return cls(((REMAINDER, modulus, shift),))

    @classmethod
    def last_figure(cls, prime, *, shift=0):
        """Return the rule that looks at the last nonzero figure in a base that is a prime."""
        if not is_prime(prime):
            raise NotPrime(prime)
        return cls(((LAST_FIGURE, prime, shift),))

    @classmethod
    def leading(cls, bits, modulus=1, *, shift=0):
        """Return the rule that looks at the first binary figures, and at their number modulo an integer."""
        if not 1 <= bits <= MOST_BITS:
            raise OutOfRange(bits)
        if not 1 <= modulus <= MOST_LENGTHS:
            raise OutOfRange(modulus)
        return cls(((LEADING, bits, modulus, shift),))

    @property
    def factors(self):
        """Return the factors in their order."""
        return self._factors

    def same(self, records):
        """Return True if all records of the list have equal labels, otherwise False."""
        # All labels are asked for, because a wrong record counts even behind labels that differ.
        labels = [_label(self._factors, record) for record in records]
        return all([label == labels[0] for label in labels])

    def __call__(self, record):
        return _label(self._factors, record)

    def __mul__(self, other):
        if not isinstance(other, Rule):
            return NotImplemented
        factors = self._factors + other._factors
        if len(factors) > MOST_FACTORS:
            raise BadCount(len(factors))
        return Rule(factors)

    def __len__(self):
        return len(self._factors)

    def __eq__(self, other):
        return isinstance(other, Rule) and self._factors == other._factors
