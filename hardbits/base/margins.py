"""Sums, margins and cores, worked out for truths and families that are known to be right."""

from hardbits.base.exact import by, dot, lowest_row, ordered, reduced
from hardbits.base.kinds import is_mix
from hardbits.base.sums import is_weights_of, least_total


def products(f, family):
    """For each test the tuple of the products of its signs and those of the truth."""
    return [tuple([sign * told for sign, told in zip(f, test)]) for test in family]


def sums_of(f, family, w):
    """The row of the sums of all tests with the measure."""
    return lowest_row(w[0], [dot(w[1], line) for line in products(f, family)])


def margins_of(f, family, y):
    """The row of the margins of the mix at all points."""
    lines = products(f, family)
    return lowest_row(y[0], [dot(y[1], point) for point in zip(*lines)])


def size_of(points, d):
    """The sum d N of a measure of the share on so many points."""
    return reduced(d[0] * points, d[1])


def is_core_of(f, family, d, e, value):
    """Whether the value is a core for the share and the edge."""
    size = size_of(len(f), d)
    if not is_weights_of(value, len(f), size):
        return False
    bottom, sums = sums_of(f, family, value)
    return ordered((max(sums), bottom), by(e, size)) <= 0


def least_margin_sum(f, family, d, y):
    """The least sum of the mix's margins for d N."""
    return least_total(margins_of(f, family, y), size_of(len(f), d))


def is_mix_above(f, family, d, e, value):
    """Whether the value is a mix that is above e for the share."""
    if not is_mix(value, len(family)):
        return False
    return ordered(least_margin_sum(f, family, d, value), by(e, size_of(len(f), d))) > 0
