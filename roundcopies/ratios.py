"""Fractions: pairs of a top and a bottom above 0."""

from math import gcd


def lowest(top, bottom):
    """A fraction in lowest terms."""
    shared = gcd(top, bottom)
    return (top // shared, bottom // shared)


def is_greater(one, other):
    """Whether one fraction is greater than another."""
    return one[0] * other[1] > other[0] * one[1]


def added(one, other):
    """The sum of two fractions, in lowest terms."""
    return lowest(one[0] * other[1] + other[0] * one[1], one[1] * other[1])


def rounded_up(fraction):
    """The least integer that is not less than a fraction."""
    top, bottom = fraction
    return (top + bottom - 1) // bottom
