"""Fractions in lowest terms, common divisors and common multiples."""

from math import gcd

from oneshard.errors import OutOfRange


def lowest(numerator, denominator):
    """Return the fraction of two integers as a pair in lowest terms, with a denominator from 1 on."""
    if denominator == 0:
        raise OutOfRange(denominator)
    divisor = gcd(numerator, denominator)
    if denominator < 0:
        divisor = -divisor
    return (numerator // divisor, denominator // divisor)


def common_divisor(first, second):
    """Return the greatest integer that divides both integers, 0 if both are 0."""
    return gcd(first, second)


def common_multiple(numbers):
    """Return the least integer from 1 on that every integer of the list divides."""
    multiple = 1
    for number in numbers:
        if number == 0:
            raise OutOfRange(number)
        multiple = multiple // gcd(multiple, number) * abs(number)
    return multiple
