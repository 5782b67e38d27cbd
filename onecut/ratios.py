"""Ratios: tuples (top, under) of integers in lowest terms, with under above 0."""

from math import gcd

ZERO = (0, 1)
ONE = (1, 1)


def is_int(thing):
    """Whether any thing is an integer; True and False are none."""
    return isinstance(thing, int) and not isinstance(thing, bool)


def is_ratio(thing):
    """Whether any thing is a ratio."""
    if not (isinstance(thing, tuple) and len(thing) == 2):
        return False
    top, under = thing
    if not (is_int(top) and is_int(under)):
        return False
    # gcd(0, under) is under, so (0, 1) is the only zero that passes.
    return under > 0 and gcd(top, under) == 1


def lowest(top, under):
    """The ratio of two integers, under not 0."""
    # A divisor with the sign of under makes the new under positive.
    divisor = gcd(top, under) if under > 0 else -gcd(top, under)
    return (top // divisor, under // divisor)


def plus(one, other):
    """The sum of two ratios."""
    return lowest(one[0] * other[1] + other[0] * one[1], one[1] * other[1])


def minus(one, other):
    """The first ratio minus the second one."""
    return lowest(one[0] * other[1] - other[0] * one[1], one[1] * other[1])


def floor_of(ratio):
    """The greatest integer that is not above the ratio."""
    return ratio[0] // ratio[1]


def rest_of(ratio):
    """The ratio minus the greatest integer that is not above it."""
    # Taking multiples of under from the top keeps the lowest terms.
    return (ratio[0] % ratio[1], ratio[1])


def is_less(one, other):
    """Whether the first ratio is below the second one."""
    return one[0] * other[1] < other[0] * one[1]
