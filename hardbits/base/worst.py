"""Sources of strings, and the greatest excess of those below a top: for values that are known to be right."""

from hardbits.base.exact import amount, dot, lowest_row, ordered, reduced
from hardbits.base.kinds import is_lowest_pair, is_mix
from hardbits.base.sums import least_fill


def excess_of_source(row, source):
    """The sum of the excesses of the row, each times its weight."""
    return reduced(dot(row[1], source[1]), row[0] * source[0])


def _least_source(numbers, top):
    """The source below top with the least excess."""
    # A source below top is top times weights from 0 to 1 that add up to 1 / top.
    return lowest_row(top[1], least_fill(numbers, (top[1], top[0]))[1])


def worst_of(row, top):
    """The greatest amount of an excess of a source below top, and such a source."""
    sources = [_least_source(row[1], top), _least_source([-number for number in row[1]], top)]
    least, greatest = [amount(excess_of_source(row, source)) for source in sources]
    return (least, sources[0]) if ordered(least, greatest) > 0 else (greatest, sources[1])


def is_top(value, length):
    """Whether the value is a fraction from 1 / 2 ** length to 1."""
    return is_lowest_pair(value) and value[1] <= value[0] << length and value[0] <= value[1]


def is_below(value, count, top):
    """Whether the value is a source of so many strings with no weight above top."""
    return is_mix(value, count) and max(value[1]) * top[1] <= top[0] * value[0]
