"""Stage 7: linear truths, and the rows that go with them."""

from hardbits.base.checks import need_share, need_word
from hardbits.base.codes import log_of, number_of, spelled
from hardbits.base.exact import reduced
from hardbits.base.kinds import is_row_within, is_truth_within, is_word
from hardbits.base.leading import linear_signs, signed_sums, strings_above
from hardbits.errors import InvalidRow, InvalidTruth, InvalidWord

MOST_STRING = 5


def sign_row(truth):
    """The row with the bottom 1 and the signs of a truth."""
    if not is_truth_within(truth, 2, 1 << MOST_STRING) or log_of(len(truth)) is None:
        raise InvalidTruth("not a truth of 2, 4, 8, 16 or 32 signs")
    return (1, truth)


def linear_truth(string):
    """The truth with the sign (-1) ** (x . a) at each point x."""
    if not isinstance(string, tuple) or not 1 <= len(string) <= MOST_STRING or not is_word(string, len(string)):
        raise InvalidWord("not a word of 1 to 5 bits")
    return linear_signs(string)


def _letters(row):
    """The n of a row of 2 ** n values from -1 to 1; raises if it is none."""
    if not is_row_within(row, 2, 1 << MOST_STRING) or log_of(len(row[1])) is None:
        raise InvalidRow("not a row of 2, 4, 8, 16 or 32 integers")
    if max([abs(number) for number in row[1]]) > row[0]:
        raise InvalidRow("not a row of values from -1 to 1")
    return log_of(len(row[1]))


def linear_sum(row, string):
    """The sum of the row at a string."""
    need_word(string, _letters(row))
    return reduced(signed_sums(row[1])[number_of(string)], row[0])


def linear_sums(row):
    """The sums of the row at all strings, by their numbers."""
    _letters(row)
    return tuple([reduced(number, row[0]) for number in signed_sums(row[1])])


def linear_list(row, e):
    """The ascending tuple of all strings at which the sum has an amount above e N."""
    _letters(row)
    need_share(e)
    return strings_above(row, e)


def _begin_weights(row, length):
    """The weights of all begins of so many bits, by their numbers, times the square of the bottom."""
    weights = [0] * (1 << length)
    for string, number in enumerate(signed_sums(row[1])):
        weights[string & (1 << length) - 1] += number * number
    return weights


def begin_weight(row, begin):
    """The sum of the squares of the sums at all strings that begin so."""
    letters = _letters(row)
    if not isinstance(begin, tuple) or len(begin) > letters or not is_word(begin, len(begin)):
        raise InvalidWord("not a word of 0 to n bits")
    return reduced(_begin_weights(row, len(begin))[number_of(begin)], row[0] * row[0])


def _heavy_begins(row, e, length):
    """The ascending tuple of the begins of so many bits with a weight above e e N N."""
    least = e[0] * len(row[1]) * row[0]
    weights = _begin_weights(row, length)
    heavy = [number for number, weight in enumerate(weights) if weight * e[1] * e[1] > least * least]
    return tuple(sorted([spelled(number, length) for number in heavy]))


def begins(row, e):
    """For each length the ascending tuple of the begins with a weight above e e N N."""
    letters = _letters(row)
    need_share(e)
    return tuple([_heavy_begins(row, e, length) for length in range(letters + 1)])


def nearest_linear(row):
    """The first string with the sum of the greatest amount, and this sum."""
    letters = _letters(row)
    sums = signed_sums(row[1])
    most = max([abs(number) for number in sums])
    string = min([spelled(at, letters) for at, number in enumerate(sums) if abs(number) == most])
    return (string, reduced(sums[number_of(string)], row[0]))
