"""Stage 18: likenesses of rows, made step by step from tests."""

from hardbits.base.checks import need_family_on, need_fraction, need_share, need_truth
from hardbits.base.exact import by, dot, lowest_row, minus, ordered, reduced
from hardbits.base.kinds import is_answer, is_family_anywhere, is_index, is_row_within, is_sign, is_tuple_of
from hardbits.base.margins import size_of, sums_of
from hardbits.base.sums import is_weights_of
from hardbits.errors import InvalidFamily, InvalidFraction, InvalidOperation, InvalidRow
from hardbits.points.truths import MOST_POINTS

MOST_STEPS = 256

_LEAST_EDGE = 16


def _is_bounded(value, least, most):
    """Whether the value is a row of least to most values from -1 to 1."""
    return is_row_within(value, least, most) and max([abs(number) for number in value[1]]) <= value[0]


def _need_row(row, least, most):
    if not _is_bounded(row, least, most):
        raise InvalidRow("not a row of so many values from -1 to 1")


def _need_edge(e):
    need_fraction(e)
    if not e[1] <= _LEAST_EDGE * e[0] or e[0] > e[1]:
        raise InvalidFraction("not a fraction from 1 / 16 to 1")


def _need_row_and_family(row, family):
    _need_row(row, 1, MOST_POINTS)
    need_family_on(family, len(row[1]))


def _farness_of(row, other, family):
    """The sums of the row less the other one with all tests, over both bottoms."""
    gaps = [one * other[0] - told * row[0] for one, told in zip(row[1], other[1])]
    return [dot(gaps, test) for test in family]


def farness(row, other, family):
    """The row of the sums of the row less the other one with all tests."""
    _need_row(row, 1, MOST_POINTS)
    _need_row(other, len(row[1]), len(row[1]))
    need_family_on(family, len(row[1]))
    return lowest_row(row[0] * other[0], _farness_of(row, other, family))


def _are_far(row, other, e, number):
    """Whether a sum over both bottoms has an amount above e N."""
    return abs(number) * e[1] > e[0] * len(row[1]) * row[0] * other[0]


def _is_like(row, other, family, e):
    return not any([_are_far(row, other, e, number) for number in _farness_of(row, other, family)])


def is_like(row, family, e, value):
    """Whether the value is a row of as many values, from -1 to 1, that is like the row."""
    _need_row_and_family(row, family)
    _need_edge(e)
    return _is_bounded(value, len(row[1]), len(row[1])) and _is_like(row, value, family, e)


def _noughts(e, points):
    """The row with which each log begins, over the bottom of e, as all rows of logs are."""
    return (e[1], [0] * points)


def _stepped(h, e, test, sign):
    """The row h with e times the test added or taken off, set to 1 or -1 where it is beyond."""
    bottom, numbers = h
    moved = [number + sign * e[0] * told for number, told in zip(numbers, test)]
    return (bottom, [max(-bottom, min(bottom, number)) for number in moved])


def _logged(row, family, e):
    """A log of the row, and the row to which its steps lead."""
    h, log = _noughts(e, len(row[1])), []
    sums = _farness_of(row, h, family)
    far = max([abs(number) for number in sums])
    while _are_far(row, h, e, far):
        index = [abs(number) for number in sums].index(far)
        sign = 1 if sums[index] > 0 else -1
        log.append((index, sign))
        h = _stepped(h, e, family[index], sign)
        sums = _farness_of(row, h, family)
        far = max([abs(number) for number in sums])
    return (tuple(log), h)


def likeness_log(row, family, e):
    """A log of the row: all steps up to a row that is like it."""
    _need_row_and_family(row, family)
    _need_edge(e)
    return _logged(row, family, e)[0]


def _is_step(value, family):
    return is_tuple_of(value, 2) and is_index(value[0], len(family)) and is_sign(value[1])


def _row_of_log(row, family, e, value):
    """The row to which the value leads, if it is a log of the row, or None."""
    if not isinstance(value, tuple):
        return None
    h = _noughts(e, len(row[1]))
    for step in value:
        if not _is_step(step, family):
            return None
        index, sign = step
        number = _farness_of(row, h, [family[index]])[0]
        if number * sign < 0 or not _are_far(row, h, e, number):
            return None
        h = _stepped(h, e, family[index], sign)
    return h if _is_like(row, h, family, e) else None


def is_likeness_log(row, family, e, value):
    """Whether the value is a log of the row."""
    _need_row_and_family(row, family)
    _need_edge(e)
    return _row_of_log(row, family, e, value) is not None


def likeness_row(family, e, log):
    """The row to which the steps of the log lead, whatever sums they had."""
    if not is_family_anywhere(family, MOST_POINTS):
        raise InvalidFamily("not a family")
    _need_edge(e)
    if not isinstance(log, tuple) or len(log) > MOST_STEPS or not all(_is_step(step, family) for step in log):
        raise InvalidOperation("not a tuple of at most 256 steps")
    h = _noughts(e, len(family[0]))
    for index, sign in log:
        h = _stepped(h, e, family[index], sign)
    return lowest_row(h[0], h[1])


def _need_for_road(f, family, d, e):
    need_truth(f, MOST_POINTS)
    need_family_on(family, len(f))
    need_share(d)
    _need_edge(e)


def road_answer(f, family, d, e):
    """A measure with which each test has little, or a log of the truth whose row goes with it more than told."""
    _need_for_road(f, family, d, e)
    log, h = _logged((1, f), family, e)
    # Half of 1 - f h at each point, over twice the bottom.
    weights = [h[0] - sign * number for sign, number in zip(f, h[1])]
    size = size_of(len(f), d)
    if ordered((sum(weights), 2 * h[0]), size) < 0:
        return ("row", log)
    return ("core", lowest_row(sum(weights) * size[1], [weight * size[0] for weight in weights]))


def _is_little_core(f, family, d, e, value):
    """Whether the value is a measure of the share with sums of amounts of at most e N / 2."""
    if not is_weights_of(value, len(f), size_of(len(f), d)):
        return False
    bottom, sums = sums_of(f, family, value)
    return all(2 * abs(number) * e[1] <= e[0] * len(f) * bottom for number in sums)


def is_road_answer(f, family, d, e, value):
    """Whether the value is such a measure, or such a log."""
    _need_for_road(f, family, d, e)
    if is_answer(value, "core", 2):
        return _is_little_core(f, family, d, e, value[1])
    if not is_answer(value, "row", 2):
        return False
    h = _row_of_log((1, f), family, e, value[1])
    if h is None:
        return False
    least = minus((1, 1), by((2, 1), d))
    return ordered(reduced(dot(f, h[1]), h[0]), by(least, (len(f), 1))) > 0
