"""Couplings of two draws on equally many points, and lots that part them, of draws that are known to be right."""

from hardbits.base.kinds import is_index, is_integer, is_lot, is_tuple_of


def gaps_of(one, other):
    """One draw less the other, as a pair of a bottom and integers."""
    return (one[0] * other[0], [left * other[0] - right * one[0] for left, right in zip(one[1], other[1])])


def _is_pair_weight(pair, weight, points):
    if not is_tuple_of(pair, 2) or not is_index(pair[0], points) or not is_index(pair[1], points):
        return False
    return is_integer(weight) and weight >= 1


def _is_pair_weights(value, points):
    """Whether the value is a bottom and a dict from pairs of points to integers from 1 on."""
    if not is_tuple_of(value, 2):
        return False
    bottom, weights = value
    if not is_integer(bottom) or bottom < 1 or not isinstance(weights, dict):
        return False
    return all(_is_pair_weight(pair, weight, points) for pair, weight in weights.items())


def is_coupling(one, other, s, value):
    """Whether the value is a coupling with weights of at most s together for pairs of unlike points."""
    points = len(one[1])
    if not _is_pair_weights(value, points):
        return False
    bottom, weights = value
    firsts, seconds, unlike = [0] * points, [0] * points, 0
    for (point, goal), weight in weights.items():
        firsts[point] += weight
        seconds[goal] += weight
        if point != goal:
            unlike += weight
    for point in range(points):
        if firsts[point] * one[0] != one[1][point] * bottom:
            return False
        if seconds[point] * other[0] != other[1][point] * bottom:
            return False
    return unlike * s[1] <= s[0] * bottom


def is_parting(one, other, s, value):
    """Whether the value is a lot with a weight under the first draw that is by more than s above the second one's."""
    if not is_lot(value, len(one[1])):
        return False
    bottom, gaps = gaps_of(one, other)
    return sum([gaps[point] for point in value]) * s[1] > s[0] * bottom
