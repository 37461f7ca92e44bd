"""Stage 16: maps that seldom meet."""

from itertools import combinations
from math import comb

from hardbits.base.checks import need_draw, need_number, need_small_prime
from hardbits.base.codes import parity
from hardbits.base.exact import lowest_row, reduced
from hardbits.base.kinds import is_answer, is_index, is_indices
from hardbits.errors import InvalidMaps, TooMany

_MOST_VALUES = 16
_MOST_MAPS = 64
_LEAST_POINTS = 2
_MOST_POINTS = 32
_MOST_BITS = 5
_MOST_BITS_OF_VALUES = 4


def _is_map(value, M):
    if not isinstance(value, tuple) or not _LEAST_POINTS <= len(value) <= _MOST_POINTS:
        return False
    return is_indices(value, M)


def _need_maps(M, maps):
    need_number(M, 1, _MOST_VALUES)
    if not isinstance(maps, tuple) or not 1 <= len(maps) <= _MOST_MAPS or not all(_is_map(one, M) for one in maps):
        raise InvalidMaps("not a tuple of 1 to 64 maps with values below M")
    if not all(len(one) == len(maps[0]) for one in maps):
        raise InvalidMaps("not maps of one number of points")


def _meeting(maps, one, other):
    """By how many maps the points meet."""
    return len([values for values in maps if values[one] == values[other]])


def chance_of_meeting(M, maps, one, other):
    """The number of maps by which the points meet, divided by that of all."""
    _need_maps(M, maps)
    need_number(one, 0, len(maps[0]) - 1)
    need_number(other, 0, len(maps[0]) - 1)
    return reduced(_meeting(maps, one, other), len(maps))


def mean_meeting(M, maps):
    """The mean over all pairs of unlike points of the chance to meet."""
    _need_maps(M, maps)
    points = len(maps[0])
    met = sum([_meeting(maps, one, other) for one, other in combinations(range(points), 2)])
    return reduced(met, comb(points, 2) * len(maps))


def _are_often(M, maps, one, other):
    """Whether the points meet with a chance above 1 / M."""
    return _meeting(maps, one, other) * M > len(maps)


def _often_pairs(M, maps):
    return [pair for pair in combinations(range(len(maps[0])), 2) if _are_often(M, maps, pair[0], pair[1])]


def meets_answer(M, maps):
    """That the maps seldom meet, or two points that meet too often."""
    _need_maps(M, maps)
    pairs = _often_pairs(M, maps)
    if not pairs:
        return ("seldom",)
    one, other = pairs[0]
    return ("pair", one, other)


def is_meets_answer(M, maps, value):
    """Whether the value is the one of both that is so, with any such points."""
    _need_maps(M, maps)
    if is_answer(value, "seldom", 1):
        return not _often_pairs(M, maps)
    if not is_answer(value, "pair", 3):
        return False
    _, one, other = value
    if not is_index(one, len(maps[0])) or not is_index(other, len(maps[0])) or one >= other:
        return False
    return _are_often(M, maps, one, other)


def _are_evenly(M, maps, one, other):
    """Whether the points have each two values, in this sequence, by equally many maps."""
    counts = [0] * (M * M)
    for values in maps:
        counts[values[one] * M + values[other]] += 1
    return all(count * M * M == len(maps) for count in counts)


def are_even(M, maps):
    """Whether each two unlike points have each two values with the same chance."""
    _need_maps(M, maps)
    # Two values in the one sequence are the same two in the other one, for the points turned.
    return all([_are_evenly(M, maps, one, other) for one, other in combinations(range(len(maps[0])), 2)])


def _spread_numbers(M, values, numbers):
    """The sums of the numbers of all points with each value."""
    sums = [0] * M
    for goal, number in zip(values, numbers):
        sums[goal] += number
    return sums


def spread(M, values, p):
    """The draw on the values to which the map leads a draw."""
    need_number(M, 1, _MOST_VALUES)
    if not _is_map(values, M):
        raise InvalidMaps("not a map with values below M")
    need_draw(p, len(values))
    return lowest_row(p[0], _spread_numbers(M, values, p[1]))


def _need_maps_and_draw(M, maps, p):
    _need_maps(M, maps)
    need_draw(p, len(maps[0]))


def _gaps(M, values, p):
    """The spread less 1 / M at each value, times M and the bottom of the draw."""
    return [number * M - p[0] for number in _spread_numbers(M, values, p[1])]


def leftover(M, maps, p):
    """The mean over the maps of the sum of the squares of the spread less 1 / M."""
    _need_maps_and_draw(M, maps, p)
    squares = sum([sum([gap * gap for gap in _gaps(M, values, p)]) for values in maps])
    return reduced(squares, len(maps) * M * M * p[0] * p[0])


def leftover_parts(M, maps, p):
    """The part of the leftover that the draw's squares make, and that of the pairs of unlike points."""
    _need_maps_and_draw(M, maps, p)
    bottom, numbers = p
    squares = sum([number * number for number in numbers])
    pairs = sum([numbers[one] * numbers[other] * (_meeting(maps, one, other) * M - len(maps))
                 for one, other in combinations(range(len(numbers)), 2)])
    return (reduced((M - 1) * squares, M * bottom * bottom), reduced(2 * pairs, len(maps) * M * bottom * bottom))


def mean_distance(M, maps, p):
    """The mean over the maps of the distance of the spread from the even one."""
    _need_maps_and_draw(M, maps, p)
    amounts = sum([sum([abs(gap) for gap in _gaps(M, values, p)]) for values in maps])
    return reduced(amounts, 2 * len(maps) * M * p[0])


def least_meeting(points, M):
    """The least mean chance to meet, that of maps whose values come equally often, or nearly so."""
    need_number(points, _LEAST_POINTS, _MOST_POINTS)
    need_number(M, 1, _MOST_VALUES)
    often, more = divmod(points, M)
    return reduced(more * comb(often + 1, 2) + (M - more) * comb(often, 2), comb(points, 2))


def _need_bits(n, m):
    need_number(n, 1, _MOST_BITS)
    need_number(m, 1, _MOST_BITS_OF_VALUES)


def _need_few(bits):
    """Raises if the maps that so many bits tell are too many."""
    if 1 << bits > _MOST_MAPS:
        raise TooMany(_MOST_MAPS)


def _linear(n, m):
    """The maps by all tables of m rows of n bits."""
    size = 1 << n
    found = [(0,) * size]
    for i in range(m):
        lines = [[parity(x & row) << i for x in range(size)] for row in range(size)]
        found = [tuple([number + bit for number, bit in zip(values, line)]) for values in found for line in lines]
    return found


def linear_maps(n, m):
    """The maps by all tables of m rows of n bits, ascending."""
    _need_bits(n, m)
    _need_few(n * m)
    return tuple(sorted(_linear(n, m)))


def affine_maps(n, m):
    """The same with each word of m bits added, ascending."""
    _need_bits(n, m)
    _need_few(n * m + m)
    turned = [tuple([number ^ added for number in values]) for values in _linear(n, m) for added in range(1 << m)]
    return tuple(sorted(turned))


def field_maps(q):
    """All maps from x to a x + b modulo the prime q, ascending."""
    need_small_prime(q)
    return tuple(sorted([tuple([(a * x + b) % q for x in range(q)]) for a in range(q) for b in range(q)]))
