"""Least sums of rows, worked out for values that are known to be right."""

from hardbits.base.exact import dot, minus, reduced
from hardbits.base.kinds import is_part_row


def in_order(numbers):
    """The indices of the numbers, those of lesser numbers first."""
    return [pair[1] for pair in sorted([(number, index) for index, number in enumerate(numbers)])]


def least_fill(numbers, s):
    """Weights of s that come to the least sum: a row over the bottom of s."""
    top, bottom = s
    weights = [0] * len(numbers)
    left = top
    for index in in_order(numbers):
        weights[index] = min(left, bottom)
        left -= weights[index]
    return (bottom, tuple(weights))


def least_total(row, s):
    """L(s) of a row."""
    weights = least_fill(row[1], s)
    return reduced(dot(row[1], weights[1]), row[0] * weights[0])


def greatest_total(row, s):
    """G(s) of a row."""
    top, bottom = least_total((row[0], tuple([-number for number in row[1]])), s)
    return (-top, bottom)


def shown_by(row, s, z):
    """What the fraction z shows of L(s)."""
    bottom, numbers = row
    top, under = z
    lacking = sum([max(0, top * bottom - number * under) for number in numbers])
    return minus(reduced(top * s[0], under * s[1]), (lacking, under * bottom))


def showing_level(row, s):
    """A value of the row that shows just L(s)."""
    bottom, numbers = row
    order = in_order(numbers)
    at = min(s[0] // s[1], len(numbers) - 1)
    return reduced(numbers[order[at]], bottom)


def is_weights_of(value, count, s):
    """Whether the value is a row of so many numbers from 0 to 1 with the sum s."""
    return is_part_row(value, count) and sum(value[1]) * s[1] == s[0] * value[0]
