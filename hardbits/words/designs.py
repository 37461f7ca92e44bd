"""Stage 9: designs, tuples of places that share few of them."""

from itertools import combinations
from math import comb

from hardbits.base.checks import need_design, need_number, need_small_prime
from hardbits.base.exact import raised
from hardbits.base.kinds import is_answer, is_design_below, is_indices, is_lot, is_tuple_of
from hardbits.errors import InvalidDesign, TooMany

MOST_PLACES = 12
MOST_TUPLES = 6

_MOST_LOTS = 32
_MOST_TRIED_LOTS = 20
_MOST_ROOM = 999


def is_design(l, value):
    """Whether the value is a design of places below l."""
    need_number(l, 1, MOST_PLACES)
    return is_design_below(value, l)


def _need_places_and_design(l, design):
    need_number(l, 1, MOST_PLACES)
    need_design(design, l)


def _common(one, other):
    return len([place for place in one if place in other])


def common_number(l, design, i, j):
    """How many places the tuples i and j have in common."""
    _need_places_and_design(l, design)
    need_number(i, 0, len(design) - 1)
    need_number(j, 0, len(design) - 1)
    return _common(design[i], design[j])


def common_rows(l, design):
    """For each tuple the numbers of places that it has in common with each one."""
    _need_places_and_design(l, design)
    return tuple([tuple([_common(one, other) for other in design]) for one in design])


def elder_bits(l, design, i):
    """The sum of 2 ** c over all elder tuples, each with c places in common with tuple i."""
    _need_places_and_design(l, design)
    need_number(i, 0, len(design) - 1)
    return sum([1 << _common(design[i], design[j]) for j in range(i)])


def _values_at(q, n, a, number):
    """The values of the polynomial with this number at 0 to n - 1, modulo q."""
    factors = []
    for _ in range(a + 1):
        factors.append(number % q)
        number = number // q
    found = []
    for x in range(n):
        value = 0
        for factor in reversed(factors):
            value = (value * x + factor) % q
        found.append(value)
    return found


def line_lots(q, n, a, m):
    """The tuples of the first m polynomials of a + 1 numbers modulo q."""
    need_small_prime(q)
    need_number(n, 1, min(6, q))
    need_number(a, 0, n - 1)
    need_number(m, 1, min(MOST_TUPLES, raised(q, a + 1)))
    if n * q > MOST_PLACES:
        raise TooMany(MOST_PLACES)
    lines = [_values_at(q, n, a, number) for number in range(m)]
    return tuple([tuple([q * i + value for i, value in enumerate(line)]) for line in lines])


def _need_sizes(l, n, a):
    need_number(l, 1, MOST_PLACES)
    need_number(n, 1, min(6, l))
    need_number(a, 0, n - 1)


def _is_n_lot(value, l, n):
    return is_tuple_of(value, n) and is_lot(value, l)


def _need_sizes_and_lots(l, n, a, lots):
    _need_sizes(l, n, a)
    if not isinstance(lots, tuple) or len(lots) > _MOST_LOTS:
        raise InvalidDesign("not a tuple of 0 to 32 lots")
    if not all(_is_n_lot(lot, l, n) for lot in lots):
        raise InvalidDesign("not a tuple of lots of n places")


def _first_with_more(lot, a, lots):
    """The index of the first of the lots that has more than a places in common with this one, or None."""
    for index, other in enumerate(lots):
        if _common(lot, other) > a:
            return index
    return None


def full_answer(l, n, a, lots):
    """One more lot beside the lots, or for each lot the index of one that bars it."""
    _need_sizes_and_lots(l, n, a, lots)
    indices = []
    for lot in combinations(range(l), n):
        index = _first_with_more(lot, a, lots)
        if index is None:
            return ("more", lot)
        indices.append(index)
    return ("full", tuple(indices))


def _are_barred(l, n, a, lots, indices):
    barred = list(combinations(range(l), n))
    if not is_tuple_of(indices, len(barred)) or not is_indices(indices, len(lots)):
        return False
    return all(_common(lot, lots[index]) > a for lot, index in zip(barred, indices))


def is_full_answer(l, n, a, lots, value):
    """Whether the value is such a lot, or such indices."""
    _need_sizes_and_lots(l, n, a, lots)
    if is_answer(value, "more", 2):
        return _is_n_lot(value[1], l, n) and _first_with_more(value[1], a, lots) is None
    if is_answer(value, "full", 2):
        return _are_barred(l, n, a, lots, value[1])
    return False


def most_lots(l, n, a):
    """How many lots there can be at most, as each lot of a + 1 places is within one of them."""
    _need_sizes(l, n, a)
    return comb(l, a + 1) // comb(n, a + 1)


def has_room(l, n, a, m):
    """Whether m lots bar too few lots to bar all, by the count."""
    _need_sizes(l, n, a)
    need_number(m, 0, _MOST_ROOM)
    barred = sum([comb(n, c) * comb(l - n, n - c) for c in range(a + 1, n + 1)])
    return m * barred < comb(l, n)


def _longest(lots, a):
    """As many of the lots as can be, each two with at most a places in common."""
    if not lots:
        return ()
    first, rest = lots[0], lots[1:]
    fitting = [lot for lot in rest if _common(first, lot) <= a]
    taken = (first,) + _longest(fitting, a)
    # A lot that bars at most one other one is never worse than this one.
    if len(fitting) + 1 >= len(rest):
        return taken
    others = _longest(rest, a)
    return others if len(others) > len(taken) else taken


def _need_few_lots(l, n, a):
    _need_sizes(l, n, a)
    if comb(l, n) > _MOST_TRIED_LOTS:
        raise TooMany(_MOST_TRIED_LOTS)


def greatest_lots(l, n, a):
    """An ascending tuple of as many lots as can be, each two with at most a common places."""
    _need_few_lots(l, n, a)
    return _longest(list(combinations(range(l), n)), a)


def is_greatest_lots(l, n, a, value):
    """Whether the value is such a tuple."""
    _need_few_lots(l, n, a)
    if not isinstance(value, tuple) or not all(_is_n_lot(lot, l, n) for lot in value):
        return False
    for index in range(1, len(value)):
        if value[index - 1] >= value[index] or _first_with_more(value[index], a, value[:index]) is not None:
            return False
    return len(value) == len(_longest(list(combinations(range(l), n)), a))
