"""Quotients: pairs (top, bottom) of integers, the bottom above 0. A fraction is one without a common divisor."""

from math import gcd

ZERO = (0, 1)


def fraction(top, bottom):
    """The fraction that is top divided by bottom."""
    common = gcd(top, bottom)
    return top // common, bottom // common


def is_below(one, other):
    """Whether the first quotient is less than the second one."""
    return one[0] * other[1] < other[0] * one[1]
