"""What kinds plain values are of: judged, never raised for, with integers of any length."""

from math import gcd

LONGEST = 999999999
MOST_IN_FAMILY = 256
MOST_IN_DESIGN = 6


def is_integer(value):
    """Whether the value is an integer of any length; True and False are none."""
    return isinstance(value, int) and not isinstance(value, bool)


def is_short(value):
    """Whether the value is an integer of at most nine digits."""
    return is_integer(value) and -LONGEST <= value <= LONGEST


def is_between(value, low, high):
    """Whether the value is an integer from low to high."""
    return is_integer(value) and low <= value <= high


def is_index(value, limit):
    """Whether the value is an integer from 0 to below the limit."""
    return is_between(value, 0, limit - 1)


def is_bit(value):
    """Whether the value is a bit."""
    return is_between(value, 0, 1)


def is_sign(value):
    """Whether the value is a sign."""
    return is_integer(value) and abs(value) == 1


def is_tuple_of(value, length):
    """Whether the value is a tuple of so many members, of any kind."""
    return isinstance(value, tuple) and len(value) == length


def is_answer(value, word, length):
    """Whether the value is a tuple of so many members, this word the first of them."""
    return is_tuple_of(value, length) and value[0] == word


def is_word(value, length):
    """Whether the value is a tuple of so many bits."""
    return is_tuple_of(value, length) and all(is_bit(bit) for bit in value)


def is_signs(value, length):
    """Whether the value is a tuple of so many signs."""
    return is_tuple_of(value, length) and all(is_sign(sign) for sign in value)


def is_truth_within(value, least, most):
    """Whether the value is a tuple of least to most signs."""
    return isinstance(value, tuple) and least <= len(value) <= most and is_signs(value, len(value))


def is_family_on(value, points):
    """Whether the value is a family of tests of so many points."""
    if not isinstance(value, tuple) or not 1 <= len(value) <= MOST_IN_FAMILY:
        return False
    return all(is_signs(test, points) for test in value)


def is_family_anywhere(value, most):
    """Whether the value is a family, on 1 to most points."""
    if not isinstance(value, tuple) or not value or not is_truth_within(value[0], 1, most):
        return False
    return is_family_on(value, len(value[0]))


def is_indices(value, limit):
    """Whether the value is a tuple of integers from 0 to below the limit."""
    return isinstance(value, tuple) and all(is_index(place, limit) for place in value)


def is_lot(value, limit):
    """Whether the value is an ascending tuple of integers from 0 to below the limit."""
    if not is_indices(value, limit):
        return False
    return all(value[k] < value[k + 1] for k in range(len(value) - 1))


def is_places(value, length, limit):
    """Whether the value is a tuple of so many unlike integers from 0 to below the limit."""
    if not is_tuple_of(value, length) or not is_indices(value, limit):
        return False
    return len(set(value)) == length


def is_lowest_pair(value):
    """Whether the value is a fraction, a pair in lowest terms with a bottom from 1 on."""
    if not is_tuple_of(value, 2):
        return False
    top, bottom = value
    return is_integer(top) and is_integer(bottom) and bottom >= 1 and gcd(top, bottom) == 1


def is_fraction_between(value, low, high):
    """Whether the value is a fraction from the integer low to the integer high."""
    return is_lowest_pair(value) and low * value[1] <= value[0] <= high * value[1]


def is_share(value):
    """Whether the value is a fraction above 0, at most 1."""
    return is_fraction_between(value, 0, 1) and value[0] > 0


def is_short_fraction(value):
    """Whether the value is a fraction of integers of at most nine digits."""
    return is_lowest_pair(value) and is_short(value[0]) and is_short(value[1])


def is_row_within(value, least, most):
    """Whether the value is a row of least to most integers, in any terms."""
    if not is_tuple_of(value, 2):
        return False
    bottom, numbers = value
    if not is_integer(bottom) or bottom < 1 or not isinstance(numbers, tuple):
        return False
    return least <= len(numbers) <= most and all(is_integer(number) for number in numbers)


def is_weights(value, count):
    """Whether the value is a row of so many numbers from 0 on."""
    return is_row_within(value, count, count) and min(value[1]) >= 0


def is_part_row(value, count):
    """Whether the value is a row of so many numbers from 0 to 1."""
    return is_weights(value, count) and max(value[1]) <= value[0]


def is_measure_within(value, least, most):
    """Whether the value is a measure of any share on least to most points."""
    if not is_row_within(value, least, most):
        return False
    return is_part_row(value, len(value[1])) and sum(value[1]) > 0


def is_mix(value, count):
    """Whether the value is a mix, or a draw, of so many things."""
    return is_weights(value, count) and sum(value[1]) == value[0]


def is_mix_within(value, least, most):
    """Whether the value is a mix, or a draw, of least to most things."""
    return is_row_within(value, least, most) and is_mix(value, len(value[1]))


def is_design_below(value, limit):
    """Whether the value is a design: 1 to 6 tuples of as many, 1 to 6, unlike places below the limit."""
    if not isinstance(value, tuple) or not 1 <= len(value) <= MOST_IN_DESIGN or not isinstance(value[0], tuple):
        return False
    length = len(value[0])
    return 1 <= length <= MOST_IN_DESIGN and all(is_places(places, length, limit) for places in value)
