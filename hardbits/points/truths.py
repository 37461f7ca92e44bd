"""Stage 2: truths, tests, families, and the letters of truths."""

from itertools import combinations
from math import comb

from hardbits.base.checks import need_family_on, need_number, need_truth
from hardbits.base.codes import bit_of, log_of, parity, sign_of, spelled
from hardbits.base.exact import dot
from hardbits.base.kinds import is_answer, is_family_anywhere, is_family_on, is_index, is_lot, is_signs
from hardbits.base.kinds import is_tuple_of, is_word
from hardbits.errors import InvalidFamily, InvalidOperation, InvalidTruth, InvalidWord, TooMany

MOST_POINTS = 32
MOST_TESTS = 256

_MOST_LETTERS = 5


def is_truth(N, value):
    """Whether the value is a truth on N points."""
    need_number(N, 1, MOST_POINTS)
    return is_signs(value, N)


def is_family(N, value):
    """Whether the value is a family on N points."""
    need_number(N, 1, MOST_POINTS)
    return is_family_on(value, N)


def truth_of(bits):
    """The truth with the sign 1 for each 0, -1 for each 1."""
    if not isinstance(bits, tuple) or not 1 <= len(bits) <= MOST_POINTS or not is_word(bits, len(bits)):
        raise InvalidWord("not a tuple of 1 to 32 bits")
    return tuple([sign_of(bit) for bit in bits])


def table_bits(f):
    """The bits of which the truth is."""
    need_truth(f, MOST_POINTS)
    return tuple([bit_of(sign) for sign in f])


def _need_alike(one, other):
    need_truth(one, MOST_POINTS)
    need_truth(other, MOST_POINTS)
    if len(one) != len(other):
        raise InvalidOperation("the truths have unlike numbers of points")


def agreement(one, other):
    """The sum of the products of the signs."""
    _need_alike(one, other)
    return dot(one, other)


def apart_number(one, other):
    """At how many points the truths are unlike."""
    _need_alike(one, other)
    return (len(one) - dot(one, other)) // 2


def _opposite_of(f):
    return tuple([-sign for sign in f])


def opposite(f):
    """The truth with the other sign at each point."""
    need_truth(f, MOST_POINTS)
    return _opposite_of(f)


def _need_family(family):
    if not is_family_anywhere(family, MOST_POINTS):
        raise InvalidFamily("not a family")


def _ascending(truths):
    """The truths in ascending sequence, each once."""
    found = {f: True for f in truths}
    return tuple(sorted(found))


def _with_opposites(truths):
    return _ascending(list(truths) + [_opposite_of(f) for f in truths])


def closed_family(family):
    """The tests and their opposites, ascending, each once."""
    _need_family(family)
    closed = _with_opposites(family)
    if len(closed) > MOST_TESTS:
        raise TooMany(MOST_TESTS)
    return closed


def does_close(family):
    """Whether the family has the opposite of each of its tests."""
    _need_family(family)
    return _with_opposites(family) == _ascending(family)


def best_of(f, family):
    """The greatest agreement of a test with the truth, and the index of the first one that has it."""
    need_truth(f, MOST_POINTS)
    need_family_on(family, len(f))
    agreements = [dot(f, test) for test in family]
    best = max(agreements)
    return (best, agreements.index(best))


def _hanging_on_all(k):
    """How many truths of k letters hang on all of them."""
    count = 1 << (1 << k)
    for fewer in range(k):
        count -= comb(k, fewer) * _hanging_on_all(fewer)
    return count


def _lifted(f, lot, n):
    """The truth of n letters that is f at the bits of the letters of the lot."""
    points = [sum([(point >> letter & 1) << k for k, letter in enumerate(lot)]) for point in range(1 << n)]
    return tuple([f[point] for point in points])


def _need_letter_number(n):
    need_number(n, 0, _MOST_LETTERS)


def letter_family(n, r):
    """All truths of n letters that hang on at most r, ascending, each once."""
    _need_letter_number(n)
    need_number(r, 0, n)
    if sum([comb(n, k) * _hanging_on_all(k) for k in range(r + 1)]) > MOST_TESTS:
        raise TooMany(MOST_TESTS)
    tables = [spelled(number, 1 << r) for number in range(1 << (1 << r))]
    truths = [tuple([sign_of(bit) for bit in table]) for table in tables]
    return _ascending([_lifted(f, lot, n) for lot in combinations(range(n), r) for f in truths])


def _linear_truths(n):
    size = 1 << n
    return [tuple([sign_of(parity(point & string)) for point in range(size)]) for string in range(size)]


def linear_family(n):
    """All linear truths of n letters, ascending."""
    _need_letter_number(n)
    return _ascending(_linear_truths(n))


def both_family(n):
    """All linear truths of n letters and their opposites, ascending."""
    _need_letter_number(n)
    return _with_opposites(_linear_truths(n))


def _letters_of(f, least):
    """How many letters the truth has, at least so many; raises if it is no such truth."""
    need_truth(f, MOST_POINTS)
    letters = log_of(len(f))
    if letters is None or letters < least:
        raise InvalidTruth("not a truth of so many letters")
    return letters


def half_of(f, letter, bit):
    """The truth of one letter less that is left when the letter has the bit."""
    letters = _letters_of(f, 1)
    need_number(letter, 0, letters - 1)
    need_number(bit, 0, 1)
    return tuple([sign for point, sign in enumerate(f) if point >> letter & 1 == bit])


def _hangs_at(f, letter, point):
    return f[point] != f[point ^ (1 << letter)]


def _hanging_pairs(f, letters):
    """For each letter on which the truth hangs a pair of it and of the first point that shows this."""
    pairs = []
    for letter in range(letters):
        points = [point for point in range(len(f)) if _hangs_at(f, letter, point)]
        if points:
            pairs.append((letter, points[0]))
    return pairs


def hanging(f):
    """The ascending tuple of the letters on which the truth hangs."""
    pairs = _hanging_pairs(f, _letters_of(f, 0))
    return tuple([pair[0] for pair in pairs])


def _need_letters_and_most(f, r):
    letters = _letters_of(f, 0)
    need_number(r, 0, letters)
    return letters


def letters_answer(f, r):
    """At most r letters, all on which the truth hangs among them, or r + 1 letters with points that tell them."""
    pairs = _hanging_pairs(f, _need_letters_and_most(f, r))
    if len(pairs) <= r:
        return ("letters", tuple([pair[0] for pair in pairs]))
    return ("pairs", tuple(pairs[:r + 1]))


def _is_hanging_pair(f, letters, pair):
    if not is_tuple_of(pair, 2) or not is_index(pair[0], letters) or not is_index(pair[1], len(f)):
        return False
    return _hangs_at(f, pair[0], pair[1])


def is_letters_answer(f, r, value):
    """Whether the value is such letters, or such pairs."""
    letters = _need_letters_and_most(f, r)
    if is_answer(value, "letters", 2):
        lot = value[1]
        return is_lot(lot, letters) and len(lot) <= r and all(pair[0] in lot for pair in _hanging_pairs(f, letters))
    if is_answer(value, "pairs", 2) and is_tuple_of(value[1], r + 1):
        pairs = value[1]
        return all(_is_hanging_pair(f, letters, pair) for pair in pairs) and is_lot(
            tuple([pair[0] for pair in pairs]), letters)
    return False
