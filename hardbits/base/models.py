"""Models of draws, and signed mixes that part draws from measures: for values that are known to be right."""

from hardbits.base.exact import dot, lowest_row, minus, ordered, over, reduced
from hardbits.base.kinds import is_mix
from hardbits.base.margins import size_of
from hardbits.base.sums import greatest_total, is_weights_of


def signed_row_of(family, mix):
    """The row of a signed mix, in least terms."""
    bottom, numbers = mix
    count = len(family)
    weights = [numbers[index] - numbers[count + index] for index in range(count)]
    return lowest_row(bottom, [dot(weights, point) for point in zip(*family)])


def difference_of(draw, family, d, mix):
    """The sum of the draw with the mix's row, less the greatest one of a measure of the share, divided by d N."""
    row = signed_row_of(family, mix)
    size = size_of(len(draw[1]), d)
    return minus(reduced(dot(draw[1], row[1]), draw[0] * row[0]), over(greatest_total(row, size), size))


def is_signed_above(draw, family, d, e, value):
    """Whether the value is a signed mix with a difference above e."""
    return is_mix(value, 2 * len(family)) and ordered(difference_of(draw, family, d, value), e) > 0


def _gap(draw, size, w, test):
    """The sum of a measure of the size with a test, divided by the size, less the sum of the draw with it."""
    return minus(reduced(dot(w[1], test) * size[1], w[0] * size[0]), reduced(dot(draw[1], test), draw[0]))


def is_model_of(draw, family, d, e, value):
    """Whether the value is a model of the draw for e."""
    size = size_of(len(draw[1]), d)
    if not is_weights_of(value, len(draw[1]), size):
        return False
    gaps = [_gap(draw, size, value, test) for test in family]
    return all(abs(top) * e[1] <= e[0] * bottom for top, bottom in gaps)
