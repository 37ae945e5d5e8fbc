"""Constants: the integers that fit a pattern, and proofs that there is none."""

from oneshard.linear import combination
from oneshard.lines import Congruence, Unlike
from oneshard.ratios import common_divisor, common_multiple
from oneshard.residues import divisor_factor, least_stranger


def _total(form):
    """Return the sum of the coefficients."""
    return sum(form.coefficients.values())


def _right_multiplier(line, multiplier, modulus):
    """Return True if a line may have this multiplier, otherwise False."""
    if line.KIND == Unlike.KIND:
        return multiplier == 0
    if line.KIND == Congruence.KIND:
        return line.modulus * multiplier % modulus == 0
    return True


def check_rests(pattern, multipliers, modulus):
    """Return True if the combination shows that no records with equal remainders are a solution."""
    if modulus < 2 or len(multipliers) != len(pattern.lines):
        return False
    if not all([_right_multiplier(line, multiplier, modulus)
                for line, multiplier in zip(pattern.lines, multipliers)]):
        return False
    form = combination(pattern, multipliers)
    return _total(form) % modulus == 0 and form.constant % modulus != 0


def _divides(divisor, number):
    """Return True if the number is a multiple of the divisor; 0 divides 0 alone."""
    return number == 0 if divisor == 0 else number % divisor == 0


def _claims(pattern):
    """Return tuples (line number, total, constant, modulus) of all equations and congruences.

    An equation has the modulus 0, because 0 divides 0 alone. So all that is said of two congruences holds of
    equations, too.
    """
    found = []
    for number, line in enumerate(pattern.lines):
        if line.KIND != Unlike.KIND:
            modulus = line.modulus if line.KIND == Congruence.KIND else 0
            found.append((number, _total(line.form), line.form.constant, modulus))
    return found


def _none(pattern, multipliers, divisor):
    """Return the result that no integer fits, for a combination whose constant the divisor does not divide.

    The divisor divides the total and what else it must. The divisor 0 means that every integer from 2 on does so.
    """
    row = tuple([multipliers.get(number, 0) for number in range(len(pattern.lines))])
    if divisor == 0:
        return ("none", row, least_stranger(combination(pattern, row).constant))
    return ("none", row, divisor)


def _fit(claim):
    """Return (rest, step) of a claim that some integer fits: exactly the integers rest + n * step fit it.

    The step is 0 if a single integer fits.
    """
    _, total, constant, modulus = claim
    divisor = common_divisor(total, modulus)
    if divisor == 0:
        return (0, 1)
    step = modulus // divisor
    rest = -divisor_factor(total, modulus) * (constant // divisor)
    return (rest, 0) if step == 0 else (rest % step, step)


def _alone(pattern, claim):
    """Return the result that no integer fits if this claim shows it alone, otherwise None."""
    number, total, constant, modulus = claim
    divisor = common_divisor(total, modulus)
    return None if _divides(divisor, constant) else _none(pattern, {number: 1}, divisor)


def _together(pattern, first, second):
    """Return the result that no integer fits if these claims show it together, otherwise None."""
    first_rest, first_step = _fit(first)
    second_rest, second_step = _fit(second)
    common_step = common_divisor(first_step, second_step)
    if _divides(common_step, first_rest - second_rest):
        return None
    # Both claims are multiplied so that their totals leave the same integer; it goes away in the difference.
    divisors = [common_divisor(total, modulus) for _, total, _, modulus in (first, second)]
    shared = common_multiple(divisors)
    multipliers = {}
    for sign, divisor, (number, total, _, modulus) in zip((1, -1), divisors, (first, second)):
        multipliers[number] = sign * divisor_factor(total, modulus) * (shared // divisor)
    return _none(pattern, multipliers, common_step * shared)


def _contradiction(pattern, claims):
    """Return the result that no integer fits, or None if there is one that fits."""
    for claim in claims:
        found = _alone(pattern, claim)
        if found is not None:
            return found
    for place, second in enumerate(claims):
        for first in claims[:place]:
            found = _together(pattern, first, second)
            if found is not None:
                return found
    return None


def _merged(fits):
    """Return (rest, step) for the integers that have all these rests, of which no two contradict each other."""
    rest, step = 0, 1
    for other_rest, other_step in fits:
        # Moduli are small, so there are few tries.
        while rest % other_step != other_rest:
            rest = rest + step
        step = common_multiple([step, other_step])
    return (rest, step)


def constants(pattern):
    """Return which integers fit the pattern: ("fixed", c), ("free", c, step) or ("none", multipliers, modulus)."""
    claims = _claims(pattern)
    found = _contradiction(pattern, claims)
    if found is not None:
        return found
    fits = [_fit(claim) for claim in claims]
    fixed = [rest for rest, step in fits if step == 0]
    return ("fixed", fixed[0]) if len(fixed) > 0 else ("free", *_merged(fits))
