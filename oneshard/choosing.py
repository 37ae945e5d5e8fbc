"""Choosing the numbers of a family so that all its records get one label (points 61 to 63 of the document).

Each number is a multiple of a power of the scale: the first one of its first power, and so on. So behind the
constant, the last figures of a record are those of the number of its own step, and each number is so much greater
than those of later steps that it alone gives the record its first figures.
"""

from oneshard.families import family_forms, lead_of, number_count, number_name
from oneshard.lines import Congruence
from oneshard.ratios import common_multiple
from oneshard.residues import divisor_factor
from oneshard.rules import LAST_FIGURE, LEADING, REMAINDER

# So many binary figures are left for what the other numbers, the constant and the shift can change.
SPARE_FIGURES = 3


def _factors(rule, kind):
    """Return what the factors of this kind have behind their kind."""
    return [factor[1:] for factor in rule.factors if factor[0] == kind]


def _primes(rule):
    """Return the different primes of the last figure factors."""
    return sorted(set([prime for prime, _ in _factors(rule, LAST_FIGURE)]))


def _prime_part(number, prime):
    """Return the highest power of the prime that divides the number, which is not 0."""
    part = 1
    while number % (part * prime) == 0:
        part = part * prime
    return part


def _scale(pattern, rule, constant, lead):
    """Return the integer whose powers divide the numbers."""
    moduli = [line.modulus for line in pattern.lines if line.KIND == Congruence.KIND]
    scale = common_multiple(moduli + [modulus for modulus, _ in _factors(rule, REMAINDER)])
    for prime in _primes(rule):
        # The last figures shall be those of the lead behind the constant, and those of the difference elsewhere.
        parts = [_prime_part(lead if shift == constant else constant - shift, prime)
                 for base, shift in _factors(rule, LAST_FIGURE) if base == prime]
        scale = scale * prime * max(parts)
    return scale


def _product(numbers):
    """Return the product of the numbers."""
    product = 1
    for number in numbers:
        product = product * number
    return product


def _unit(power, primes):
    """Return an integer from 1 to the product of the primes.

    Multiplied by the power, it has the last nonzero figure 1 in the base of each prime.
    """
    product = _product(primes)
    unit = 0
    for prime in primes:
        others = product // prime
        unit = unit + others * divisor_factor(others * (power // _prime_part(power, prime)), prime)
    return (unit - 1) % product + 1


def _exponent(rule, size):
    """Return an exponent of 2 for the first figures of records for which the size shall not count.

    It is the same for all sizes modulo what the rule asks of lengths.
    """
    factors = _factors(rule, LEADING)
    lengths = common_multiple([modulus for _, modulus, _ in factors])
    least = _most_bits(rule) + SPARE_FIGURES + (size - 1).bit_length()
    return -(-least // lengths) * lengths


def _most_bits(rule):
    """Return how many first figures the rule asks for."""
    return max([1] + [bits for bits, _, _ in _factors(rule, LEADING)])


def _least_number(unit, step, lead, least):
    """Return the least number unit + h * step whose product with the lead is at least this; the unit's is less."""
    count = -((lead * unit - least) // (lead * step))
    return unit + count * step


def choose_numbers(pattern, paper, rule, above):
    """Return the numbers of the family as a dict; all records that they give are greater than an integer."""
    constant = paper[1]
    lead = lead_of(paper)
    scale = _scale(pattern, rule, constant, lead)
    primes = _primes(rule)
    forms = family_forms(pattern, paper)
    most = max([abs(coefficient) for form in forms.values() for coefficient in form.coefficients.values()])
    bound = abs(constant) + sum([abs(factor[-1]) for factor in rule.factors]) + max(0, above)
    numbers = {}
    for place in range(number_count(pattern, paper), 0, -1):
        power = _product([scale for _ in range(place)])
        step = power * _product(primes)
        exponent = _exponent(rule, lead * step + lead * (2 * most + 1) * bound)
        least = (1 << exponent) + (1 << (exponent - _most_bits(rule) - SPARE_FIGURES + 1))
        number = _least_number(power * _unit(power, primes), step, lead, least)
        numbers[number_name(place)] = number
        bound = bound + number
    return numbers
