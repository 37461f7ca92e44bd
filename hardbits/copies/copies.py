"""Stage 13: sums of copies of truths, and the lines of tests on their points."""

from hardbits.base.checks import need_fraction_between, need_number, need_share
from hardbits.base.copying import bound_of, copies_of, lines_of
from hardbits.base.exact import dot, ordered, raised, reduced
from hardbits.base.kinds import is_answer, is_index, is_part_row, is_signs, is_truth_within, is_tuple_of
from hardbits.base.margins import is_core_of, is_mix_above
from hardbits.core.edges import edge_of
from hardbits.core.needs import need_little_work
from hardbits.errors import InvalidMeasure, InvalidTruth, TooMany
from hardbits.points.truths import MOST_POINTS, MOST_TESTS

MOST_COPIES = 3

_MOST_COPY_POINTS = 4096


def _need_few_points(N, k):
    if raised(N, k) > _MOST_COPY_POINTS:
        raise TooMany(_MOST_COPY_POINTS)


def _need_truths(truths):
    if not isinstance(truths, tuple) or not 1 <= len(truths) <= MOST_COPIES:
        raise InvalidTruth("not a tuple of 1 to 3 truths")
    if not is_truth_within(truths[0], 1, MOST_POINTS):
        raise InvalidTruth("not truths")
    if not all(is_signs(truth, len(truths[0])) for truth in truths):
        raise InvalidTruth("not truths on one number of points")


def _need_copy_test(test, N, k):
    if not is_signs(test, raised(N, k)):
        raise InvalidTruth("not a sign for each point of copies")


def copies(truths):
    """The copies of the truths, a sign for each point of copies."""
    _need_truths(truths)
    _need_few_points(len(truths[0]), len(truths))
    return copies_of(truths)


def _need_truths_and_test(truths, test):
    _need_truths(truths)
    _need_copy_test(test, len(truths[0]), len(truths))


def copies_sum(truths, test):
    """The sum of the products of the copies and the test."""
    _need_truths_and_test(truths, test)
    _need_few_points(len(truths[0]), len(truths))
    return dot(copies_of(truths), test)


def _few_lines(N, k, test):
    """The lines, if neither the points nor they are too many."""
    _need_few_points(N, k)
    found = lines_of(N, k, test)
    if len(found) > MOST_TESTS:
        raise TooMany(MOST_TESTS)
    return found


def lines(N, k, test):
    """The ascending tuple of the unlike lines of a test."""
    need_number(N, 1, MOST_POINTS)
    need_number(k, 1, MOST_COPIES)
    _need_copy_test(test, N, k)
    return _few_lines(N, k, test)


def copies_bound(d, e, k):
    """The bound for the sum of copies with cores, as a share of all their points."""
    need_share(d)
    need_fraction_between(e, 0, 1)
    need_number(k, 1, MOST_COPIES)
    return bound_of(d, e, k)


def _need_measures(measures, N, k):
    if not is_tuple_of(measures, k) or not all(is_part_row(row, N) for row in measures):
        raise InvalidMeasure("not a row of values from 0 to 1 for each truth")


def _split(left, numbers, whole):
    """The sum of what is left, weighed at the first place; and what is left with the rest of the weights there."""
    size = len(left) // len(numbers)
    blocks = [left[start:start + size] for start in range(0, len(left), size)]
    part = sum([number * sum(block) for number, block in zip(numbers, blocks)])
    rest = [sum([(whole - number) * block[at] for number, block in zip(numbers, blocks)]) for at in range(size)]
    return (part, rest)


def splits(truths, test, measures):
    """The parts of the sum of the copies and the test."""
    _need_truths_and_test(truths, test)
    N, k = len(truths[0]), len(truths)
    _need_measures(measures, N, k)
    _need_few_points(N, k)
    left, bottom, parts = [sign * told for sign, told in zip(copies_of(truths), test)], 1, []
    for whole, numbers in measures:
        part, left = _split(left, numbers, whole)
        bottom *= whole
        parts.append(reduced(part, bottom))
    parts.append(reduced(left[0], bottom))
    return tuple(parts)


def _lines_for_answer(truths, test, d, e):
    """The lines of the test, when all arguments are right."""
    _need_truths_and_test(truths, test)
    need_share(d)
    need_fraction_between(e, 0, 1)
    return _few_lines(len(truths[0]), len(truths), test)


def copies_answer(truths, test, d, e):
    """A core for each truth against the lines, or for some truth a mix of lines that is above e."""
    family = _lines_for_answer(truths, test, d, e)
    need_little_work(len(family), len(truths[0]))
    measures = []
    for place, truth in enumerate(truths):
        v, w, y = edge_of(truth, family, d)
        if ordered(v, e) > 0:
            return ("mix", place, y)
        measures.append(w)
    return ("cores", tuple(measures))


def _are_cores(truths, family, d, e, value):
    if not is_tuple_of(value, len(truths)):
        return False
    return all([is_core_of(truth, family, d, e, w) for truth, w in zip(truths, value)])


def is_copies_answer(truths, test, d, e, value):
    """Whether the value is such cores, or such a place and a mix."""
    family = _lines_for_answer(truths, test, d, e)
    if is_answer(value, "cores", 2):
        return _are_cores(truths, family, d, e, value[1])
    if is_answer(value, "mix", 3) and is_index(value[1], len(truths)):
        return is_mix_above(truths[value[1]], family, d, e, value[2])
    return False
