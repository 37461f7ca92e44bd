"""Stage 5: votes of mixes, few tests, and voices."""

from itertools import combinations
from math import comb

from hardbits.base.checks import need_mix, need_number, need_truth
from hardbits.base.exact import by, dot, lowest_row, ordered, reduced
from hardbits.base.kinds import is_answer, is_family_anywhere, is_mix, is_row_within
from hardbits.base.margins import is_core_of, size_of, sums_of
from hardbits.base.sums import least_total
from hardbits.core.edges import core_or_mix, edge_of
from hardbits.core.needs import need_for_core, need_for_share, need_little_work
from hardbits.errors import InvalidFamily, InvalidRow, TooMany
from hardbits.points.truths import MOST_POINTS

_MOST_TRIED_TESTS = 10
_MOST_VOICES = 8
_MOST_TRIED_VOICES = 3000
_NO_EDGE = (0, 1)


def vote_row_of(family, mix):
    """The vote row of a mix, of both of which it is known that they are right."""
    return lowest_row(mix[0], [dot(mix[1], point) for point in zip(*family)])


def vote_row(family, mix):
    """At each point the weights of the tests with 1 there, less those of the others."""
    if not is_family_anywhere(family, MOST_POINTS):
        raise InvalidFamily("not a family")
    need_mix(mix, len(family))
    return vote_row_of(family, mix)


def _need_truth_and_row(truth, row):
    need_truth(truth, MOST_POINTS)
    if not is_row_within(row, len(truth), len(truth)):
        raise InvalidRow("not a row with a value for each point")


def wrong_points_of(truth, row):
    """The wrong points of a row, of both of which it is known that they are right."""
    return tuple([point for point, sign in enumerate(truth) if sign * row[1][point] <= 0])


def wrong_points(truth, row):
    """The ascending tuple of the points at which the row does not go with the truth; ties are wrong."""
    _need_truth_and_row(truth, row)
    return wrong_points_of(truth, row)


def margin(truth, row):
    """The least product of the truth's sign and the row's value."""
    _need_truth_and_row(truth, row)
    return reduced(min([sign * number for sign, number in zip(truth, row[1])]), row[0])


def vote_answer(truth, family, d):
    """A core for the edge 0, or a mix whose vote is wrong at fewer than d N points."""
    need_for_share(truth, family, d)
    need_little_work(len(family), len(truth))
    kind, told = core_or_mix(truth, family, d, _NO_EDGE)
    # A mix that is above 0 for the share has so few wrong points.
    return ("core", told) if kind == "core" else ("vote", told)


def _is_vote(truth, family, d, value):
    if not is_mix(value, len(family)):
        return False
    wrong = wrong_points_of(truth, vote_row_of(family, value))
    return ordered((len(wrong), 1), size_of(len(truth), d)) < 0


def is_vote_answer(truth, family, d, value):
    """Whether the value is such a core, or such a mix, also if both are there."""
    need_for_share(truth, family, d)
    if is_answer(value, "core", 2):
        return is_core_of(truth, family, d, _NO_EDGE, value[1])
    if is_answer(value, "vote", 2):
        return _is_vote(truth, family, d, value[1])
    return False


def _mask_of(indices):
    return sum([1 << index for index in indices])


def _barring(truth, family, d, e, lot):
    """The mask of tests, those of the lot among them, for all of which one measure is a core; 0 without one."""
    v, w, _ = edge_of(truth, [family[index] for index in lot], d)
    if ordered(v, e) > 0:
        return 0
    bottom, sums = sums_of(truth, family, w)
    most = by(e, size_of(len(truth), d))
    return _mask_of([index for index, number in enumerate(sums) if ordered((number, bottom), most) <= 0])


def _all_but(count, left_out):
    return [index for index in range(count) if index != left_out]


def _first_bars(truth, family, d, e):
    """The masks of tests that have a core together, for all tests but one."""
    count = len(family)
    if count == 1:
        return []
    masks = [_barring(truth, family, d, e, _all_but(count, index)) for index in range(count)]
    return [mask for mask in masks if mask]


def _is_barred(mask, bars):
    """Whether all tests of the mask have a core together, as one of the bars tells."""
    return any([mask & ~bar == 0 for bar in bars])


def _fewest_of(truth, family, d, e):
    """The first of the shortest tuples, where all tests together have a mix above e."""
    bars = _first_bars(truth, family, d, e)
    for length in range(1, len(family) + 1):
        for lot in combinations(range(len(family)), length):
            if not _is_barred(_mask_of(lot), bars):
                bar = _barring(truth, family, d, e, lot)
                if bar == 0:
                    return lot
                bars.append(bar)
    return None


def fewest(truth, family, d, e):
    """The first of the shortest ascending tuples of tests that alone have a mix above e, or None."""
    need_for_core(truth, family, d, e)
    if len(family) > _MOST_TRIED_TESTS:
        raise TooMany(_MOST_TRIED_TESTS)
    if _barring(truth, family, d, e, list(range(len(family)))):
        return None
    return _fewest_of(truth, family, d, e)


def _all_voices(count, r):
    """All ascending tuples of r indices below the count, also with one again, in Python's order."""
    found = [()]
    for _ in range(r):
        found = [lot + (index,) for lot in found for index in range(lot[-1] if lot else 0, count)]
    return found


def _are_above(truth, family, d, e, lot):
    """Whether the least sum of truth times the sum of the voices' signs is above e r d N."""
    votes = [sum([family[index][point] for index in lot]) * sign for point, sign in enumerate(truth)]
    size = size_of(len(truth), d)
    return ordered(least_total((1, votes), size), by((e[0] * len(lot), e[1]), size)) > 0


def voices(truth, family, d, e, r):
    """The first of the ascending tuples of r voices above e, or None."""
    need_for_core(truth, family, d, e)
    need_number(r, 1, _MOST_VOICES)
    if comb(len(family) + r - 1, r) > _MOST_TRIED_VOICES:
        raise TooMany(_MOST_TRIED_VOICES)
    for lot in _all_voices(len(family), r):
        if _are_above(truth, family, d, e, lot):
            return lot
    return None
