"""Stage 4: cores of truths, and the mixes of tests that bar them."""

from hardbits.base.checks import need_fraction_between, need_measure, need_mix
from hardbits.base.exact import by, dot, lowest_row, ordered, reduced
from hardbits.base.kinds import is_answer, is_lowest_pair, is_mix, is_weights
from hardbits.base.margins import is_core_of, is_mix_above, least_margin_sum, margins_of, products, size_of, sums_of
from hardbits.core.edges import core_or_mix, edge_of
from hardbits.core.needs import need_for_core, need_for_share, need_little_work, need_truth_and_family
from hardbits.game.programs import Program
from hardbits.points.truths import MOST_POINTS


def share_of(w):
    """The share of a measure."""
    need_measure(w, 1, MOST_POINTS)
    return reduced(sum(w[1]), w[0] * len(w[1]))


def test_sums(f, family, w):
    """The row of the sums of all tests with the measure."""
    need_truth_and_family(f, family)
    need_measure(w, len(f), len(f))
    return sums_of(f, family, w)


def margins(f, family, y):
    """The row of the margins of the mix at all points."""
    need_truth_and_family(f, family)
    need_mix(y, len(family))
    return margins_of(f, family, y)


def core_answer(f, family, d, e):
    """A core, or a mix that is above e for the share."""
    need_for_core(f, family, d, e)
    need_little_work(len(family), len(f))
    return core_or_mix(f, family, d, e)


def is_core_answer(f, family, d, e, value):
    """Whether the value is such a core, or such a mix."""
    need_for_core(f, family, d, e)
    if is_answer(value, "core", 2):
        return is_core_of(f, family, d, e, value[1])
    if is_answer(value, "mix", 2):
        return is_mix_above(f, family, d, e, value[1])
    return False


def least_edge(f, family, d):
    """The least number v such that a measure of the share has sums of at most v d N with all tests."""
    need_for_share(f, family, d)
    need_little_work(len(family), len(f))
    return edge_of(f, family, d)[0]


def edge_answer(f, family, d):
    """The least edge, a measure that has it, and a mix that shows that none has less."""
    need_for_share(f, family, d)
    need_little_work(len(family), len(f))
    v, w, y = edge_of(f, family, d)
    return ("edge", v, w, y)


def is_edge_answer(f, family, d, value):
    """Whether the value is the least edge with such a measure and such a mix."""
    need_for_share(f, family, d)
    if not is_answer(value, "edge", 4):
        return False
    _, v, w, y = value
    if not is_lowest_pair(v) or not is_core_of(f, family, d, v, w) or not is_mix(y, len(family)):
        return False
    return least_margin_sum(f, family, d, y) == by(v, size_of(len(f), d))


def _need_for_edge(f, family, e):
    need_truth_and_family(f, family)
    need_fraction_between(e, 0, 1)


def _share_program(f, family, e):
    """The program whose numbers are a core for e, and its sum divided by the bottom of e.

    That sum has a number of its own so that the edge stands in one column alone, and the integers stay short.
    """
    points = len(f)
    rows = [list(line) + [-e[0]] for line in products(f, family)]
    for point in range(points):
        rows.append([1 if other == point else 0 for other in range(points)] + [0])
    rows.append([-1] * points + [e[1]])
    return Program(rows, [0] * len(family) + [1] * points + [0], [0] * points + [1])


def share_answer(f, family, e):
    """The greatest share with a core for e, a core and weights that bar more; or a mix above e at all points."""
    _need_for_edge(f, family, e)
    need_little_work(len(family), len(f))
    program = _share_program(f, family, e)
    program.solve()
    prices = program.prices()[:len(family)]
    if program.best() == 0:
        return ("none", lowest_row(sum(prices), prices))
    d = reduced(program.best() * e[1], program.scale * len(f))
    u = lowest_row(program.scale, [price * e[1] for price in prices])
    return ("share", d, lowest_row(program.scale, program.weights()[:len(f)]), u)


def _over_edge(line, e):
    """The products of a test less the edge, times the edge's bottom."""
    return [product * e[1] - e[0] for product in line]


def _barred_size(f, family, e, u):
    """The sum over all points of the greater one of 0 and 1 - sum of u (f t - e)."""
    lines = [_over_edge(line, e) for line in products(f, family)]
    whole = u[0] * e[1]
    return reduced(sum([max(0, whole - dot(u[1], point)) for point in zip(*lines)]), whole)


def _is_greatest_share(f, family, e, value):
    _, d, w, u = value
    if not is_lowest_pair(d) or not is_core_of(f, family, d, e, w) or not is_weights(u, len(family)):
        return False
    return d[0] > 0 and _barred_size(f, family, e, u) == size_of(len(f), d)


def is_share_answer(f, family, e, value):
    """Whether the value is such a share with a core and weights, or such a mix."""
    _need_for_edge(f, family, e)
    if is_answer(value, "share", 4):
        return _is_greatest_share(f, family, e, value)
    if is_answer(value, "none", 2) and is_mix(value[1], len(family)):
        bottom, numbers = margins_of(f, family, value[1])
        return ordered((min(numbers), bottom), e) > 0
    return False
