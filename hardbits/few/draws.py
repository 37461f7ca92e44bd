"""Stage 19: few draws for all, shifts that cover, and weights with one least lot."""

from itertools import combinations
from math import comb

from hardbits.base.checks import need_mix, need_number
from hardbits.base.exact import dot, raised, reduced
from hardbits.base.kinds import is_between, is_indices, is_lot, is_tuple_of, is_word
from hardbits.errors import InvalidNumber, InvalidOperation, Refused, TooMany

_MOST_ROWS = 32
_MOST_CHOICES = 32
_MOST_DRAWS = 64
_MOST_BY_MOST = 15
_MOST_TRIED_CHOICES = 12
_MOST_BITS = 5
_MOST_SHIFTS = 8
_MOST_PLACES = 5
_MOST_WEIGHT = 999
_MOST_EACH_WEIGHT = 6
_MOST_LOTS = 24


def _need_goods(goods):
    if not isinstance(goods, tuple) or not 1 <= len(goods) <= _MOST_ROWS or not isinstance(goods[0], tuple):
        raise InvalidOperation("not a tuple of 1 to 32 rows")
    choices = len(goods[0])
    if not 1 <= choices <= _MOST_CHOICES or not all(is_word(row, choices) for row in goods):
        raise InvalidOperation("not rows of equally many, 1 to 32, bits")


def _need_goods_and_mix(goods, mix):
    _need_goods(goods)
    need_mix(mix, len(goods[0]))


def _bare_of(goods, draws):
    """The indices of the rows for which none of the draws is good."""
    return [index for index, row in enumerate(goods) if not any([row[draw] for draw in draws])]


def bare_rows(goods, draws):
    """The ascending tuple of the indices of the bare rows."""
    _need_goods(goods)
    if not is_indices(draws, len(goods[0])) or len(draws) > _MOST_DRAWS:
        raise InvalidOperation("not a tuple of 0 to 64 indices of draws")
    return tuple(_bare_of(goods, draws))


def _least_chance_of(goods, mix):
    return reduced(min([dot(row, mix[1]) for row in goods]), mix[0])


def least_chance(goods, mix):
    """The least weight of the good draws of a row."""
    _need_goods_and_mix(goods, mix)
    return _least_chance_of(goods, mix)


def _draws_needed(goods, mix):
    """The least t for which the number of rows times (1 - v) ** t is below 1; raises if there is none, or too many."""
    v = _least_chance_of(goods, mix)
    if v[0] == 0:
        raise Refused(("bare", [dot(row, mix[1]) for row in goods].index(0)))
    left, whole, t = len(goods), 1, 0
    while left >= whole:
        if t == _MOST_DRAWS:
            raise TooMany(_MOST_DRAWS)
        left, whole, t = left * (v[1] - v[0]), whole * v[1], t + 1
    return t


def _most_covering(goods, bare):
    """The first draw that is good for most of the bare rows."""
    counts = [sum([goods[index][draw] for index in bare]) for draw in range(len(goods[0]))]
    return counts.index(max(counts))


def draws_by_mean(goods, mix):
    """At most t draws that leave no row bare."""
    _need_goods_and_mix(goods, mix)
    _draws_needed(goods, mix)
    # A draw that is good for most of them leaves at most the mean number bare, so that t draws are enough.
    draws, bare = (), _bare_of(goods, ())
    while bare:
        draws = draws + (_most_covering(goods, bare),)
        bare = _bare_of(goods, draws)
    return draws


def is_draws(goods, mix, value):
    """Whether the value is a tuple of at most t draws that leaves no row bare."""
    _need_goods_and_mix(goods, mix)
    t = _draws_needed(goods, mix)
    return is_indices(value, len(goods[0])) and len(value) <= t and not _bare_of(goods, value)


def _need_most(t):
    if not is_between(t, 1, _MOST_BY_MOST) or t & 1 == 0:
        raise InvalidNumber(t)


def _seldom(v, left, most):
    """The chance that at most so many of the draws left are good, times the bottom of v as often as draws are left."""
    good, bad = v[0], v[1] - v[0]
    return sum([comb(left, j) * raised(good, j) * raised(bad, left - j) for j in range(min(left, most) + 1)])


def _least_failing(goods, v, left, counts, t):
    """The first draw behind which the rows fail with the least chances together, with so many draws left."""
    # How often a row fails hangs on how many draws were good for it alone.
    failing = [_seldom(v, left, t // 2 - count) for count in range(t + 1)]
    sums = [sum([failing[count + row[draw]] for row, count in zip(goods, counts)]) for draw in range(len(goods[0]))]
    return sums.index(min(sums))


def most_by_mean(goods, mix, t):
    """t draws of which for each row more than half are good."""
    _need_goods_and_mix(goods, mix)
    _need_most(t)
    v = _least_chance_of(goods, mix)
    if len(goods) * _seldom(v, t, t // 2) >= raised(v[1], t):
        raise Refused(("open",))
    # The mean over all draws is no greater than what was ahead, so the least one is not; at the end it is below 1.
    draws, counts = (), [0] * len(goods)
    for left in reversed(range(t)):
        draw = _least_failing(goods, v, left, counts, t)
        draws = draws + (draw,)
        counts = [count + row[draw] for count, row in zip(counts, goods)]
    return draws


def is_most(goods, t, value):
    """Whether the value is a tuple of t draws of which for each row more than half are good."""
    _need_goods(goods)
    _need_most(t)
    if not is_tuple_of(value, t) or not is_indices(value, len(goods[0])):
        return False
    return all(2 * sum([row[draw] for draw in value]) > t for row in goods)


def _served(goods, draw):
    """The mask of the rows for which the draw is good."""
    return sum([row[draw] << index for index, row in enumerate(goods)])


def _all_served(masks, draws):
    together = 0
    for draw in draws:
        together |= masks[draw]
    return together


def least_draws(goods):
    """The least number of draws that leave no row bare, or None."""
    _need_goods(goods)
    choices = len(goods[0])
    if choices > _MOST_TRIED_CHOICES:
        raise TooMany(_MOST_TRIED_CHOICES)
    masks, whole = [_served(goods, draw) for draw in range(choices)], (1 << len(goods)) - 1
    for number in range(1, choices + 1):
        for draws in combinations(range(choices), number):
            if _all_served(masks, draws) == whole:
                return number
    return None


def _need_bits_and_lot(n, lot):
    need_number(n, 1, _MOST_BITS)
    if not is_lot(lot, 1 << n):
        raise InvalidOperation("not an ascending tuple of numbers of words")


def _uncovered_of(lot, left, shift):
    """Those of the words left that the shift does not cover."""
    return [word for word in left if word ^ shift not in lot]


def _uncovered_by(n, lot, shifts):
    left = list(range(1 << n))
    for shift in shifts:
        left = _uncovered_of(lot, left, shift)
    return left


def uncovered(n, lot, shifts):
    """The ascending tuple of the numbers of words that no shift covers."""
    _need_bits_and_lot(n, lot)
    if not is_indices(shifts, 1 << n) or len(shifts) > _MOST_SHIFTS:
        raise InvalidOperation("not a tuple of 0 to 8 numbers of words")
    return tuple(_uncovered_by(n, lot, shifts))


def _need_for_shifts(n, lot, k):
    _need_bits_and_lot(n, lot)
    need_number(k, 1, _MOST_SHIFTS)


def _covering(n, lot, k):
    """k shifts, each one with as few words left as can be."""
    shifts, left = (), list(range(1 << n))
    for _ in range(k):
        counts = [len(_uncovered_of(lot, left, shift)) for shift in range(1 << n)]
        shift = counts.index(min(counts))
        left = _uncovered_of(lot, left, shift)
        shifts = shifts + (shift,)
    return shifts


def shifts_answer(n, lot, k):
    """k shifts that cover all, if the count tells that some do; or that so many are too few; or neither."""
    _need_for_shifts(n, lot, k)
    size = 1 << n
    # A shift that leaves least leaves at most the mean share of what is left.
    if raised(size - len(lot), k) < raised(size, k - 1):
        return ("shifts", _covering(n, lot, k))
    if k * len(lot) < size:
        return ("few", k * len(lot))
    return ("open",)


def is_cover(n, lot, k, value):
    """Whether the value is a tuple of k shifts that cover all."""
    _need_for_shifts(n, lot, k)
    return is_tuple_of(value, k) and is_indices(value, 1 << n) and not _uncovered_by(n, lot, value)


def _need_weights(weights):
    if not isinstance(weights, tuple) or not 1 <= len(weights) <= _MOST_PLACES:
        raise InvalidOperation("not a tuple of 1 to 5 weights")
    if not all(is_between(weight, 1, _MOST_WEIGHT) for weight in weights):
        raise InvalidOperation("not a tuple of integers from 1 to 999")


def _need_lots(lots, places):
    if not isinstance(lots, tuple) or not 1 <= len(lots) <= _MOST_LOTS:
        raise InvalidOperation("not a tuple of 1 to 24 lots")
    if not all(is_lot(lot, places) for lot in lots) or len(set(lots)) < len(lots):
        raise InvalidOperation("not a tuple of unlike ascending tuples of places")


def _weight_of(weights, lot):
    return sum([weights[place] for place in lot])


def _least_of(weights, lots):
    """Those of the lots that have the least weight."""
    found = [_weight_of(weights, lot) for lot in lots]
    least = min(found)
    return [lot for lot, weight in zip(lots, found) if weight == least]


def least_lots(weights, lots):
    """The ascending tuple of the lots with the least weight."""
    _need_weights(weights)
    _need_lots(lots, len(weights))
    return tuple(sorted(_least_of(weights, lots)))


def tie_weight(weights, lots, place):
    """The weight of its own with which the place would be tied, or None."""
    _need_weights(weights)
    _need_lots(lots, len(weights))
    need_number(place, 0, len(weights) - 1)
    having = [_weight_of(weights, lot) - weights[place] for lot in lots if place in lot]
    lacking = [_weight_of(weights, lot) for lot in lots if place not in lot]
    if not having or not lacking:
        return None
    return min(lacking) - min(having)


def single_number(m, W, lots):
    """How many of the ways to weigh m places from 1 to W leave just one least lot."""
    need_number(m, 1, _MOST_PLACES)
    need_number(W, 1, _MOST_EACH_WEIGHT)
    _need_lots(lots, m)
    ways = [()]
    for _ in range(m):
        ways = [way + (weight,) for way in ways for weight in range(1, W + 1)]
    return len([way for way in ways if len(_least_of(way, lots)) == 1])
