"""FRACTIONS: whether any thing is one; added, multiplied, compared ([5], [16])."""

from math import gcd

from waycircuits.words import is_number

ONE = (1, 1)
NOUGHT = (0, 1)


def is_fraction(thing):
    """Whether the thing is a FRACTION: a pair of NUMBERS, the under 1 or more, in lowest terms."""
    if not isinstance(thing, tuple) or len(thing) != 2:
        return False
    over, under = thing
    if not is_number(over) or not is_number(under):
        return False
    return under >= 1 and gcd(over, under) == 1


def plus(one, other):
    """Both FRACTIONS added."""
    return lowest(one[0] * other[1] + other[0] * one[1], one[1] * other[1])


def times(one, other):
    """Both FRACTIONS multiplied."""
    return lowest(one[0] * other[0], one[1] * other[1])


def less(one, other):
    """Whether the one FRACTION is less than the other."""
    return one[0] * other[1] < other[0] * one[1]


def lowest(over, under):
    """The FRACTION in lowest terms; under is 1 or more."""
    shared = gcd(over, under)
    return (over // shared, under // shared)
