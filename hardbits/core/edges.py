"""Sums, margins, cores and least edges, worked out for truths and families that are known to be right."""

from hardbits.base.exact import by, dot, lowest_row, minus, ordered, reduced
from hardbits.base.kinds import is_mix
from hardbits.base.sums import is_weights_of, least_total
from hardbits.game.programs import Program

# So much is added to each product of signs that all of them are above 0.
_RAISED = 2


def products(f, family):
    """For each test the tuple of the products of its signs and those of the truth."""
    return [tuple([sign * told for sign, told in zip(f, test)]) for test in family]


def sums_of(f, family, w):
    """The row of the sums of all tests with the measure."""
    return lowest_row(w[0], [dot(w[1], line) for line in products(f, family)])


def margins_of(f, family, y):
    """The row of the margins of the mix at all points."""
    lines = products(f, family)
    return lowest_row(y[0], [dot(y[1], point) for point in zip(*lines)])


def size_of(f, d):
    """The sum d N of a measure of the share."""
    return reduced(d[0] * len(f), d[1])


def is_core_of(f, family, d, e, value):
    """Whether the value is a core for the share and the edge."""
    size = size_of(f, d)
    if not is_weights_of(value, len(f), size):
        return False
    bottom, sums = sums_of(f, family, value)
    return ordered((max(sums), bottom), by(e, size)) <= 0


def least_margin_sum(f, family, d, y):
    """The least sum of the mix's margins for d N."""
    return least_total(margins_of(f, family, y), size_of(f, d))


def is_mix_above(f, family, d, e, value):
    """Whether the value is a mix that is above e for the share."""
    if not is_mix(value, len(family)):
        return False
    return ordered(least_margin_sum(f, family, d, value), by(e, size_of(f, d))) > 0


def _edge_program(f, family, d):
    """The program whose numbers are a measure, divided by the greatest of its raised sums, and what 1 is then.

    The more 1 is then, the less is that sum; a measure with a greater sum than d N is let, but never best.
    """
    points, size = len(f), size_of(f, d)
    rows = [[product + _RAISED for product in line] + [0] for line in products(f, family)]
    for point in range(points):
        rows.append([1 if other == point else 0 for other in range(points)] + [-1])
    rows.append([-size[1]] * points + [size[0]])
    bounds = [1] * len(family) + [0] * (points + 1)
    return Program(rows, bounds, [0] * points + [1])


def edge_of(f, family, d):
    """The least edge, a measure that has it, and a mix that shows that none has less."""
    program = _edge_program(f, family, d)
    program.solve()
    size = size_of(f, d)
    v = minus(reduced(program.scale * size[1], program.best() * size[0]), (_RAISED, 1))
    prices = program.prices()[:len(family)]
    w = lowest_row(program.best(), program.weights()[:len(f)])
    return (v, w, lowest_row(sum(prices), prices))


def core_or_mix(f, family, d, e):
    """A core, or a mix that is above e for the share, named."""
    v, w, y = edge_of(f, family, d)
    if ordered(v, e) <= 0:
        return ("core", w)
    return ("mix", y)
