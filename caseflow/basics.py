"""The kinds of values that all parts of the package use."""

from math import gcd

MAX_LETTERS = 8


def is_integer(value):
    """Returns whether the value is an integer; True and False are none."""
    return isinstance(value, int) and not isinstance(value, bool)


def is_integer_within(value, least, most):
    """Returns whether the value is an integer from `least` to `most`."""
    return is_integer(value) and least <= value <= most


def are_integers(value):
    """Returns whether the value is a tuple of integers, perhaps ()."""
    return isinstance(value, tuple) and all([is_integer(part) for part in value])


def is_fraction(value):
    """Returns whether the value is a pair of integers in lowest terms, the second one at least 1."""
    return are_integers(value) and len(value) == 2 and value[1] >= 1 and gcd(value[0], value[1]) == 1


def is_name(value):
    """Returns whether the value is a name: one to eight letters, a to z."""
    if not isinstance(value, str) or not 1 <= len(value) <= MAX_LETTERS:
        return False
    return all(["a" <= letter <= "z" for letter in value])


def ascends(values):
    """Returns whether these values, which can be compared, ascend strictly."""
    return all([one < other for one, other in zip(values, values[1:])])
