"""Arithmetic of fractions, which are pairs of integers in lowest terms."""

from math import gcd, lcm

ZERO = (0, 1)
ONE = (1, 1)


def ratio(above, below):
    """Returns the fraction of two integers; the second one is greater than 0."""
    common = gcd(above, below)
    return (above // common, below // common)


def whole(number):
    """Returns the integer as a fraction."""
    return (number, 1)


def product_of(one, other):
    """Returns the product of two fractions."""
    return ratio(one[0] * other[0], one[1] * other[1])


def sum_of(fractions):
    """Returns the sum of a list of fractions."""
    below = common_denominator(fractions)
    return ratio(sum([part[0] * (below // part[1]) for part in fractions]), below)


def common_denominator(fractions):
    """Returns the least integer that all the denominators divide."""
    below = 1
    for part in fractions:
        below = lcm(below, part[1])
    return below
