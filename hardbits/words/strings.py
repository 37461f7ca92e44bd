"""Stage 11: strings that are led back, by advices in which they do not stand."""

from hardbits.base.checks import need_design, need_number, need_share, need_table, need_word
from hardbits.base.codes import number_of, parity, spelled
from hardbits.base.exact import dot
from hardbits.base.kinds import is_answer, is_lowest_pair
from hardbits.base.leading import counted_string, is_advice_of, led_to, linear_signs, list_of
from hardbits.base.reading import common_indices, excess_of, is_within, row_of_tables
from hardbits.errors import InvalidAdvice, InvalidDesign
from hardbits.linear.linear import MOST_STRING
from hardbits.words.bits import last_and_bits
from hardbits.words.designs import MOST_PLACES


def need_string_design(l, design):
    """Raises unless this is a design below l with tuples of 1 to 5 places."""
    need_number(l, 1, MOST_PLACES)
    need_design(design, l)
    if len(design[0]) > MOST_STRING:
        raise InvalidDesign("the tuples have more than 5 places")


def need_design_and_test(l, design, test):
    """Raises unless these are such a design, and a test of as many bits as it has tuples."""
    need_string_design(l, design)
    need_table(test, len(design))


def string_excess_of(l, design, test, string):
    """The excess of the bits of a string, for what is known to be right."""
    return excess_of(counted_string(l, design, string), test)


def string_excess(l, design, test, string):
    """The excess of the bits of a string."""
    need_design_and_test(l, design, test)
    need_word(string, len(design[0]))
    return string_excess_of(l, design, test, string)


def is_advice(l, design, value):
    """Whether the value is an advice for the design and a test of as many bits as it has tuples."""
    need_string_design(l, design)
    return is_advice_of(design, value)


def _need_advice(design, advice):
    if not is_advice_of(design, advice):
        raise InvalidAdvice("not an advice for this design")


def advised_row(l, design, test, advice):
    """The row of the advice, a sign for each point."""
    need_design_and_test(l, design, test)
    _need_advice(design, advice)
    i, tables, last, r, _ = advice
    return row_of_tables(design, test, i, tables, last, r)


def _need_all_for_list(l, design, test, e, advice):
    need_design_and_test(l, design, test)
    need_share(e)
    _need_advice(design, advice)


def advised_list(l, design, test, e, advice):
    """The list of the advice."""
    _need_all_for_list(l, design, test, e, advice)
    i, tables, last, r, _ = advice
    return list_of(design, test, e, i, tables, last, r)


def led_back(l, design, test, e, advice):
    """The string to which the advice leads, or None."""
    _need_all_for_list(l, design, test, e, advice)
    return led_to(design, test, e, advice)


def _need_all_for_string(l, design, test, e, string):
    need_design_and_test(l, design, test)
    need_share(e)
    need_word(string, len(design[0]))


def _string_tables(design, i, string, turned):
    """The tables of the string's elder bits, each of them with a bit of `turned` added.

    Such a bit is what a seed adds to the elder bit at the places that tuple i lacks.
    """
    tables = []
    for j, bit in enumerate(turned):
        elder = design[j]
        common = [design[i][index] for index in common_indices(design, i, j)]
        mask = number_of([string[elder.index(place)] for place in common])
        tables.append(tuple([parity(number & mask) ^ bit for number in range(1 << len(common))]))
    return tuple(tables)


def _leading_from(design, test, e, string, i):
    """An advice of tuple i that leads to the string, or None."""
    truth = linear_signs(string)
    for number in range(1 << i):
        tables = _string_tables(design, i, string, spelled(number, i))
        for last, r in last_and_bits(len(design) - i - 1):
            found = dot(truth, row_of_tables(design, test, i, tables, last, r))
            if abs(found) * e[1] > e[0] * len(truth):
                index = list_of(design, test, e, i, tables, last, r).index(string)
                return (i, tables, last, r, index)
    return None


def leading_advice(design, test, e, string):
    """An advice that leads to the string, which is not within."""
    for i in range(len(design)):
        advice = _leading_from(design, test, e, string, i)
        if advice is not None:
            return advice
    return None


def string_answer(l, design, test, e, string):
    """The excess of the string if it is within m e / 2, otherwise an advice that leads to it."""
    _need_all_for_string(l, design, test, e, string)
    found = string_excess_of(l, design, test, string)
    if is_within(found, len(design), e):
        return ("within", found)
    return ("advice", leading_advice(design, test, e, string))


def is_string_answer(l, design, test, e, string, value):
    """Whether the value is a right one of both, an advice also if the excess is within."""
    _need_all_for_string(l, design, test, e, string)
    if is_answer(value, "within", 2):
        found = string_excess_of(l, design, test, string)
        return is_lowest_pair(value[1]) and value[1] == found and is_within(found, len(design), e)
    if is_answer(value, "advice", 2) and is_advice_of(design, value[1]):
        return led_to(design, test, e, value[1]) == string
    return False


def not_within(l, design, test, e):
    """The ascending tuple of all strings whose excess has an amount above m e / 2."""
    need_design_and_test(l, design, test)
    need_share(e)
    length, m = len(design[0]), len(design)
    strings = [spelled(number, length) for number in range(1 << length)]
    outside = [string for string in strings if not is_within(string_excess_of(l, design, test, string), m, e)]
    return tuple(sorted(outside))


def tables_size(design, i):
    """How many bits all elder tables of tuple i have together."""
    return sum([1 << len(common_indices(design, i, j)) for j in range(i)])


def rows_number(design):
    """How many (i, tables, last, r) the advices have."""
    m = len(design)
    return sum([1 << (m - i + tables_size(design, i)) for i in range(m)])


def advices_number_of(design, e):
    """The number of [11.4], for a design and an e that are known to be right."""
    # The greatest integer below 1 / (e e).
    most = (e[1] * e[1] - 1) // (e[0] * e[0])
    return most * rows_number(design)


def advices_number(l, design, e):
    """How many strings are not within at most, by the number of advices."""
    need_string_design(l, design)
    need_share(e)
    return advices_number_of(design, e)
