"""Sums and products of exact numbers that are known to be right: nothing is checked here."""

from math import gcd


def reduced(top, bottom):
    """The fraction top / bottom; the bottom is not 0."""
    shared = gcd(top, bottom)
    if bottom < 0:
        shared = -shared
    return (top // shared, bottom // shared)


def plus(one, other):
    """The sum of two fractions."""
    return reduced(one[0] * other[1] + other[0] * one[1], one[1] * other[1])


def minus(one, other):
    """One fraction less the other."""
    return reduced(one[0] * other[1] - other[0] * one[1], one[1] * other[1])


def by(one, other):
    """The product of two fractions."""
    return reduced(one[0] * other[0], one[1] * other[1])


def over(one, other):
    """One fraction divided by the other, which is not 0."""
    return reduced(one[0] * other[1], one[1] * other[0])


def ordered(one, other):
    """-1, 0 or 1 for a fraction that is less than, equal to or greater than the other."""
    gap = one[0] * other[1] - other[0] * one[1]
    return (gap > 0) - (gap < 0)


def amount(number):
    """The fraction without its sign."""
    return (abs(number[0]), number[1])


def raised(number, k):
    """The product of k times the same integer."""
    found = 1
    for _ in range(k):
        found *= number
    return found


def dot(one, other):
    """The sum of the products of two tuples of integers."""
    return sum([left * right for left, right in zip(one, other)])


def lowest_row(bottom, numbers):
    """The row of these numbers over the bottom, in least terms."""
    shared = bottom
    for number in numbers:
        shared = gcd(shared, number)
    return (bottom // shared, tuple([number // shared for number in numbers]))
