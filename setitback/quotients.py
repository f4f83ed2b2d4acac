"""Fractions (top, bottom): in lowest terms, which is worth more, so many times one, and powers, rounded up."""

from math import gcd


def lowest_terms(top, bottom):
    """A fraction: top by bottom, without a common divisor."""
    common = gcd(top, bottom)
    return top // common, bottom // common


def is_above(one, other):
    """Whether the one fraction is worth more than the other."""
    return one[0] * other[1] > other[0] * one[1]


def rounded_up(fraction, many):
    """So many times a fraction, rounded up."""
    return -(-many * fraction[0] // fraction[1])


def power_rounded_up(fraction, many):
    """A fraction to the power of so many, rounded up."""
    top, bottom = 1, 1
    for _ in range(many):
        top = top * fraction[0]
        bottom = bottom * fraction[1]
    return -(-top // bottom)
