"""Reckoning with remainders."""


def divisor_factor(number, modulus):
    """Return an integer whose product with the number leaves their greatest common divisor modulo the modulus.

    Behind the modulus 0, the product is the common divisor itself, which is the absolute value of the number.
    """
    rest, next_rest = number, modulus
    factor, next_factor = 1, 0
    while next_rest != 0:
        quotient = rest // next_rest
        rest, next_rest = next_rest, rest - quotient * next_rest
        factor, next_factor = next_factor, factor - quotient * next_factor
    return -factor if rest < 0 else factor


def least_stranger(number):
    """Return the least integer from 2 on that does not divide the number, which is not 0."""
    divisor = 2
    while number % divisor == 0:
        divisor = divisor + 1
    return divisor
