"""Linear truths, and advices that lead back to strings: for values that are known to be right."""

from hardbits.base.codes import log_of, number_of, parity, sign_of, spelled
from hardbits.base.exact import lowest_row
from hardbits.base.kinds import is_bit, is_index, is_tuple_of, is_word
from hardbits.base.reading import common_indices, excess_of, row_of_tables

_MOST_INDEX = 31


def linear_signs(string):
    """The linear truth of a string."""
    mask = number_of(string)
    return tuple([sign_of(parity(point & mask)) for point in range(1 << len(string))])


def signed_sums(numbers):
    """The sums of 2 ** n numbers with the signs of each linear truth, by the numbers of the strings."""
    sums, step = list(numbers), 1
    while step < len(sums):
        # With each further bit a pair of sums becomes the sum and the difference.
        turned = []
        for index, number in enumerate(sums):
            other = sums[index ^ step]
            turned.append(other - number if index & step else number + other)
        sums, step = turned, 2 * step
    return sums


def strings_above(row, e):
    """The ascending tuple of the strings at which the row's sum has an amount above e N."""
    bottom, numbers = row
    length, least = log_of(len(numbers)), e[0] * len(numbers) * bottom
    sums = signed_sums(numbers)
    return tuple(sorted([spelled(at, length) for at, told in enumerate(sums) if abs(told) * e[1] > least]))


def counted_string(l, design, string):
    """The draw of the bits of a string over all seeds, over the number of these."""
    counts = [1] + [0] * ((1 << len(design)) - 1)
    turning = [0] * l
    for index, places in enumerate(design):
        for place, bit in zip(places, string):
            turning[place] += bit << index
    # A linear truth is a sum: a seed's bit, if it is 1, turns the same bits whatever else the seed is.
    for turned in turning:
        counts = [count + counts[word ^ turned] for word, count in enumerate(counts)]
    return (1 << l, tuple(counts))


def excesses_of(l, design, test):
    """The row of the excesses of all strings, by their numbers, in least terms."""
    length = len(design[0])
    strings = [spelled(number, length) for number in range(1 << length)]
    found = [excess_of(counted_string(l, design, string), test) for string in strings]
    # 2 ** l seeds and 2 ** m words: all bottoms divide this one.
    bottom = 1 << (l + len(design))
    return lowest_row(bottom, [top * (bottom // under) for top, under in found])


def _are_tables(design, i, tables):
    if not is_tuple_of(tables, i):
        return False
    return all(is_word(table, 1 << len(common_indices(design, i, j))) for j, table in enumerate(tables))


def is_advice_of(design, value):
    """Whether the value is an advice for the design and a test of as many bits as it has tuples."""
    if not is_tuple_of(value, 5):
        return False
    i, tables, last, r, index = value
    if not is_index(i, len(design)) or not _are_tables(design, i, tables):
        return False
    return is_word(last, len(design) - i - 1) and is_bit(r) and is_index(index, _MOST_INDEX + 1)


def list_of(design, test, e, i, tables, last, r):
    """The ascending tuple of the strings with a sum of an amount above e N with the row of these."""
    return strings_above((1, row_of_tables(design, test, i, tables, last, r)), e)


def led_to(design, test, e, advice):
    """The string to which the advice leads, or None."""
    i, tables, last, r, index = advice
    found = list_of(design, test, e, i, tables, last, r)
    return found[index] if index < len(found) else None
