"""Stage 4: cores of truths, and the mixes of tests that bar them."""

from hardbits.base.checks import need_family_on, need_fraction_between, need_measure, need_mix, need_share, need_truth
from hardbits.base.exact import by, dot, lowest_row, minus, ordered, reduced
from hardbits.base.kinds import is_answer, is_lowest_pair, is_mix, is_weights
from hardbits.base.sums import is_weights_of, least_total
from hardbits.errors import TooMany
from hardbits.game.programs import Program
from hardbits.points.truths import MOST_POINTS

_MOST_WORK = 2048
# So much is added to each product of signs that all of them are above 0.
_RAISED = 2


def _need_truth_and_family(f, family):
    need_truth(f, MOST_POINTS)
    need_family_on(family, len(f))


def _need_for_core(f, family, d, e):
    _need_truth_and_family(f, family)
    need_share(d)
    need_fraction_between(e, 0, 1)


def _need_for_edge(f, family, d):
    _need_truth_and_family(f, family)
    need_share(d)


def _need_for_share(f, family, e):
    _need_truth_and_family(f, family)
    need_fraction_between(e, 0, 1)


def _need_little_work(f, family):
    if len(f) * len(family) > _MOST_WORK:
        raise TooMany(_MOST_WORK)


def _lines(f, family):
    """For each test the tuple of the products of its signs and those of the truth."""
    return [tuple([sign * told for sign, told in zip(f, test)]) for test in family]


def share_of(w):
    """The share of a measure."""
    need_measure(w, 1, MOST_POINTS)
    return reduced(sum(w[1]), w[0] * len(w[1]))


def _sums_of(f, family, w):
    return lowest_row(w[0], [dot(w[1], line) for line in _lines(f, family)])


def test_sums(f, family, w):
    """The row of the sums of all tests with the measure."""
    _need_truth_and_family(f, family)
    need_measure(w, len(f), len(f))
    return _sums_of(f, family, w)


def _margins_of(f, family, y):
    lines = _lines(f, family)
    return lowest_row(y[0], [dot(y[1], point) for point in zip(*lines)])


def margins(f, family, y):
    """The row of the margins of the mix at all points."""
    _need_truth_and_family(f, family)
    need_mix(y, len(family))
    return _margins_of(f, family, y)


def _size(f, d):
    """The sum d N of a measure of the share."""
    return reduced(d[0] * len(f), d[1])


def _is_core(f, family, d, e, value):
    size = _size(f, d)
    if not is_weights_of(value, len(f), size):
        return False
    bottom, sums = _sums_of(f, family, value)
    return ordered((max(sums), bottom), by(e, size)) <= 0


def _least_margin_sum(f, family, d, y):
    return least_total(_margins_of(f, family, y), _size(f, d))


def _bars_core(f, family, d, e, value):
    """Whether the value is a mix that is above e for the share."""
    if not is_mix(value, len(family)):
        return False
    return ordered(_least_margin_sum(f, family, d, value), by(e, _size(f, d))) > 0


def _edge_program(f, family, d):
    """The program whose numbers are a measure, divided by the greatest of its raised sums, and what 1 is then.

    The more 1 is then, the less is that sum; a measure with a greater sum than d N is let, but never best.
    """
    points, size = len(f), _size(f, d)
    rows = [[product + _RAISED for product in line] + [0] for line in _lines(f, family)]
    for point in range(points):
        rows.append([1 if other == point else 0 for other in range(points)] + [-1])
    rows.append([-size[1]] * points + [size[0]])
    bounds = [1] * len(family) + [0] * (points + 1)
    return Program(rows, bounds, [0] * points + [1])


def _edge_of(f, family, d):
    """The least edge, a measure that has it, and a mix that shows that none has less."""
    program = _edge_program(f, family, d)
    program.solve()
    size = _size(f, d)
    v = minus(reduced(program.scale * size[1], program.best() * size[0]), (_RAISED, 1))
    prices = program.prices()[:len(family)]
    w = lowest_row(program.best(), program.weights()[:len(f)])
    return (v, w, lowest_row(sum(prices), prices))


def core_answer(f, family, d, e):
    """A core, or a mix that is above e for the share."""
    _need_for_core(f, family, d, e)
    _need_little_work(f, family)
    v, w, y = _edge_of(f, family, d)
    if ordered(v, e) <= 0:
        return ("core", w)
    return ("mix", y)


def is_core_answer(f, family, d, e, value):
    """Whether the value is such a core, or such a mix."""
    _need_for_core(f, family, d, e)
    if is_answer(value, "core", 2):
        return _is_core(f, family, d, e, value[1])
    if is_answer(value, "mix", 2):
        return _bars_core(f, family, d, e, value[1])
    return False


def least_edge(f, family, d):
    """The least number v such that a measure of the share has sums of at most v d N with all tests."""
    _need_for_edge(f, family, d)
    _need_little_work(f, family)
    return _edge_of(f, family, d)[0]


def edge_answer(f, family, d):
    """The least edge, a measure that has it, and a mix that shows that none has less."""
    _need_for_edge(f, family, d)
    _need_little_work(f, family)
    v, w, y = _edge_of(f, family, d)
    return ("edge", v, w, y)


def is_edge_answer(f, family, d, value):
    """Whether the value is the least edge with such a measure and such a mix."""
    _need_for_edge(f, family, d)
    if not is_answer(value, "edge", 4):
        return False
    _, v, w, y = value
    if not is_lowest_pair(v) or not _is_core(f, family, d, v, w) or not is_mix(y, len(family)):
        return False
    return _least_margin_sum(f, family, d, y) == by(v, _size(f, d))


def _share_program(f, family, e):
    """The program whose numbers are a core for e, and its sum divided by the bottom of e.

    That sum has a number of its own so that the edge stands in one column alone, and the integers stay short.
    """
    points = len(f)
    rows = [list(line) + [-e[0]] for line in _lines(f, family)]
    for point in range(points):
        rows.append([1 if other == point else 0 for other in range(points)] + [0])
    rows.append([-1] * points + [e[1]])
    return Program(rows, [0] * len(family) + [1] * points + [0], [0] * points + [1])


def share_answer(f, family, e):
    """The greatest share with a core for e, a core and weights that bar more; or a mix above e at all points."""
    _need_for_share(f, family, e)
    _need_little_work(f, family)
    program = _share_program(f, family, e)
    program.solve()
    prices = program.prices()[:len(family)]
    if program.best() == 0:
        return ("none", lowest_row(sum(prices), prices))
    d = reduced(program.best() * e[1], program.scale * len(f))
    u = lowest_row(program.scale, [price * e[1] for price in prices])
    return ("share", d, lowest_row(program.scale, program.weights()[:len(f)]), u)


def _over_edge(line, e):
    """The products of a test less the edge, times the edge's bottom."""
    return [product * e[1] - e[0] for product in line]


def _barred_size(f, family, e, u):
    """The sum over all points of the greater one of 0 and 1 - sum of u (f t - e)."""
    lines = [_over_edge(line, e) for line in _lines(f, family)]
    whole = u[0] * e[1]
    return reduced(sum([max(0, whole - dot(u[1], point)) for point in zip(*lines)]), whole)


def _is_greatest_share(f, family, e, value):
    _, d, w, u = value
    if not is_lowest_pair(d) or not _is_core(f, family, d, e, w) or not is_weights(u, len(family)):
        return False
    return d[0] > 0 and _barred_size(f, family, e, u) == _size(f, d)


def is_share_answer(f, family, e, value):
    """Whether the value is such a share with a core and weights, or such a mix."""
    _need_for_share(f, family, e)
    if is_answer(value, "share", 4):
        return _is_greatest_share(f, family, e, value)
    if is_answer(value, "none", 2) and is_mix(value[1], len(family)):
        bottom, numbers = _margins_of(f, family, value[1])
        return ordered((min(numbers), bottom), e) > 0
    return False
