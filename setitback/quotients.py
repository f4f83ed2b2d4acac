"""Fractions (top, bottom): in lowest terms, and so many times one, or a power of one, rounded up; common multiples."""

from math import gcd, lcm


def lowest_terms(top, bottom):
    """A fraction: top by bottom, without a common divisor."""
    common = gcd(top, bottom)
    return top // common, bottom // common


def rounded_up(fraction, many):
    """So many times a fraction, rounded up."""
    return -(-many * fraction[0] // fraction[1])


def power_rounded_up(fraction, many):
    """A fraction to the power of so many, rounded up."""
    top, bottom = 1, 1
    for _ in range(many):
        top = top * fraction[0]
        bottom = bottom * fraction[1]
    return -(-top // bottom)


def least_common(numbers):
    """The least common multiple of all numbers."""
    common = 1
    for number in numbers:
        common = lcm(common, number)
    return common
