"""Stage 1: fractions, rows and least sums."""

from math import lcm

from hardbits.base.checks import need_fraction, need_fraction_between, need_number, need_row, need_short
from hardbits.base.exact import by, dot, lowest_row, minus, ordered, over, plus, reduced
from hardbits.base.kinds import is_answer, is_lowest_pair, is_row_within, is_short_fraction
from hardbits.base.sums import greatest_total, is_weights_of, least_fill, least_total, showing_level, shown_by
from hardbits.errors import InvalidOperation, InvalidRow

_MOST_ENTRIES = 32
_MOST_POWER = 40


def is_fraction(value):
    """Whether the value is a fraction."""
    return is_lowest_pair(value)


def fraction(top, bottom):
    """The top divided by the bottom."""
    need_short(top)
    need_short(bottom)
    if bottom == 0:
        raise InvalidOperation("a bottom is not 0")
    return reduced(top, bottom)


def _need_both(one, other):
    need_fraction(one)
    need_fraction(other)


def added(one, other):
    """The sum."""
    _need_both(one, other)
    return plus(one, other)


def less(one, other):
    """One less the other."""
    _need_both(one, other)
    return minus(one, other)


def times(one, other):
    """The product."""
    _need_both(one, other)
    return by(one, other)


def divided(one, other):
    """One divided by the other."""
    _need_both(one, other)
    if other[0] == 0:
        raise InvalidOperation("nothing is divided by 0")
    return over(one, other)


def power(one, k):
    """The product of k times the same fraction."""
    need_fraction(one)
    need_number(k, 0, _MOST_POWER)
    result = (1, 1)
    for _ in range(k):
        result = by(result, one)
    return result


def compared(one, other):
    """-1, 0 or 1 for less, equal or greater."""
    _need_both(one, other)
    return ordered(one, other)


def floor_of(one):
    """The greatest integer that is at most the fraction."""
    need_fraction(one)
    return one[0] // one[1]


def ceiling_of(one):
    """The least integer that is at least the fraction."""
    need_fraction(one)
    return -(-one[0] // one[1])


def is_row(value):
    """Whether the value is a row of 1 to 32 integers."""
    return is_row_within(value, 1, _MOST_ENTRIES)


def row_of(numbers):
    """The row of a tuple of 1 to 32 fractions."""
    if not isinstance(numbers, tuple) or not 1 <= len(numbers) <= _MOST_ENTRIES:
        raise InvalidRow("not a tuple of 1 to 32 fractions")
    if not all(is_short_fraction(number) for number in numbers):
        raise InvalidRow("not a tuple of fractions")
    bottom = 1
    for number in numbers:
        bottom = lcm(bottom, number[1])
    return lowest_row(bottom, [top * (bottom // under) for top, under in numbers])


def entries(row):
    """The values of a row as fractions."""
    need_row(row, _MOST_ENTRIES)
    return tuple([reduced(number, row[0]) for number in row[1]])


def lowest(row):
    """The row in least terms."""
    need_row(row, _MOST_ENTRIES)
    return lowest_row(row[0], row[1])


def row_sum(row):
    """The sum of the values."""
    need_row(row, _MOST_ENTRIES)
    return reduced(sum(row[1]), row[0])


def _need_alike_rows(one, other):
    need_row(one, _MOST_ENTRIES)
    need_row(other, _MOST_ENTRIES)
    if len(one[1]) != len(other[1]):
        raise InvalidOperation("the rows have unlike numbers of integers")


def row_dot(one, other):
    """The sum of the products of the values."""
    _need_alike_rows(one, other)
    return reduced(dot(one[1], other[1]), one[0] * other[0])


def row_added(one, other):
    """The rows added."""
    _need_alike_rows(one, other)
    both = [left * other[0] + right * one[0] for left, right in zip(one[1], other[1])]
    return lowest_row(one[0] * other[0], both)


def scaled(row, number):
    """The row times a number."""
    need_row(row, _MOST_ENTRIES)
    need_fraction(number)
    return lowest_row(row[0] * number[1], [entry * number[0] for entry in row[1]])


def _need_row_and_size(row, s):
    need_row(row, _MOST_ENTRIES)
    need_fraction_between(s, 0, len(row[1]))


def least_sum(row, s):
    """L(s)."""
    _need_row_and_size(row, s)
    return least_total(row, s)


def greatest_sum(row, s):
    """G(s)."""
    _need_row_and_size(row, s)
    return greatest_total(row, s)


def least_weights(row, s):
    """Weights of s that come to L(s)."""
    _need_row_and_size(row, s)
    return least_fill(row[1], s)


def _weighed(row, weights):
    return reduced(dot(row[1], weights[1]), row[0] * weights[0])


def is_least_weights(row, s, value):
    """Whether the value is weights of s that come to L(s)."""
    _need_row_and_size(row, s)
    return is_weights_of(value, len(row[1]), s) and _weighed(row, value) == least_total(row, s)


def level_shows(row, s, z):
    """What z shows of L(s)."""
    _need_row_and_size(row, s)
    need_fraction(z)
    return shown_by(row, s, z)


def level_answer(row, s, v):
    """Weights with a sum of products below v, or a level that shows at least v."""
    _need_row_and_size(row, s)
    need_fraction(v)
    if ordered(least_total(row, s), v) < 0:
        return ("weights", least_fill(row[1], s))
    return ("level", showing_level(row, s))


def is_level_answer(row, s, v, value):
    """Whether the value is such weights, or such a level."""
    _need_row_and_size(row, s)
    need_fraction(v)
    if is_answer(value, "weights", 2):
        return is_weights_of(value[1], len(row[1]), s) and ordered(_weighed(row, value[1]), v) < 0
    if is_answer(value, "level", 2):
        return is_lowest_pair(value[1]) and ordered(shown_by(row, s, value[1]), v) >= 0
    return False
