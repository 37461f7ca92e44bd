"""Stage 12: sources of strings, and how far a test can tell their bits."""

from hardbits.base.checks import need_draw, need_fraction, need_fraction_between, need_share
from hardbits.base.codes import spelled
from hardbits.base.exact import amount, lowest_row, ordered, plus, reduced
from hardbits.base.kinds import is_answer, is_lowest_pair, is_row_within
from hardbits.base.leading import excesses_of, list_of
from hardbits.base.reading import common_indices
from hardbits.base.worst import excess_of_source, is_below, is_top, worst_of
from hardbits.errors import InvalidFraction, TooMany
from hardbits.words.bits import last_and_bits
from hardbits.words.strings import advices_number_of, need_design_and_test, need_string_design, rows_number
from hardbits.words.strings import tables_size

_MOST_ROWS = 4096


def _need_top(top, length):
    """Raises unless the top is from 1 / 2 ** length to 1."""
    need_fraction(top)
    if not is_top(top, length):
        raise InvalidFraction("not a fraction from 1 / 2 ** n to 1")


def excess_row(l, design, test):
    """The row of the excesses of all strings, by their numbers, in least terms."""
    need_design_and_test(l, design, test)
    return excesses_of(l, design, test)


def _all_tables(design, i):
    """All tuples of tables of the elder bits that an advice of tuple i can have."""
    lengths = [1 << len(common_indices(design, i, j)) for j in range(i)]
    size, found = tables_size(design, i), []
    for number in range(1 << size):
        bits, tables, start = spelled(number, size), [], 0
        for length in lengths:
            tables.append(bits[start:start + length])
            start += length
        found.append(tuple(tables))
    return found


def tried(l, design, test, e):
    """The ascending tuple of all strings to which some advice leads."""
    need_design_and_test(l, design, test)
    need_share(e)
    if rows_number(design) > _MOST_ROWS:
        raise TooMany(_MOST_ROWS)
    found = {}
    for i in range(len(design)):
        for tables in _all_tables(design, i):
            for last, r in last_and_bits(len(design) - i - 1):
                for string in list_of(design, test, e, i, tables, last, r):
                    found[string] = True
    return tuple(sorted(found))


def source_excess(l, design, test, source):
    """The sum of the excesses of all strings, each times its weight."""
    need_design_and_test(l, design, test)
    need_draw(source, 1 << len(design[0]))
    return excess_of_source(excesses_of(l, design, test), source)


def _need_all_for_top(l, design, test, top):
    need_design_and_test(l, design, test)
    _need_top(top, len(design[0]))


def worst_source(l, design, test, top):
    """The greatest amount of an excess of a source below top, and any such source."""
    _need_all_for_top(l, design, test, top)
    number, source = worst_of(excesses_of(l, design, test), top)
    return ("worst", number, source)


def is_worst_source(l, design, test, top, value):
    """Whether the value tells this amount and such a source."""
    _need_all_for_top(l, design, test, top)
    if not is_answer(value, "worst", 3) or not is_lowest_pair(value[1]):
        return False
    row = excesses_of(l, design, test)
    if value[1] != worst_of(row, top)[0] or not is_below(value[2], len(row[1]), top):
        return False
    return amount(excess_of_source(row, value[2])) == value[1]


def _need_all_for_bound(l, design, test, top, bound):
    _need_all_for_top(l, design, test, top)
    need_fraction_between(bound, 0, 1)


def source_answer(l, design, test, top, bound):
    """The row of all excesses if each source below top is within the bound, or any source that is not."""
    _need_all_for_bound(l, design, test, top, bound)
    row = excesses_of(l, design, test)
    number, source = worst_of(row, top)
    if ordered(number, bound) <= 0:
        return ("each", row)
    return ("source", source)


def is_source_answer(l, design, test, top, bound, value):
    """Whether the value is that row, in any terms, or such a source."""
    _need_all_for_bound(l, design, test, top, bound)
    row = excesses_of(l, design, test)
    count = len(row[1])
    if is_answer(value, "each", 2) and is_row_within(value[1], count, count):
        return lowest_row(value[1][0], value[1][1]) == row and ordered(worst_of(row, top)[0], bound) <= 0
    if is_answer(value, "source", 2) and is_below(value[1], count, top):
        return ordered(amount(excess_of_source(row, value[1])), bound) > 0
    return False


def source_bound(l, design, e, top):
    """m e / 2 and top times the number of advices, an upper bound for all sources below top."""
    need_string_design(l, design)
    need_share(e)
    _need_top(top, len(design[0]))
    seldom = reduced(top[0] * advices_number_of(design, e), top[1])
    return plus(reduced(len(design) * e[0], 2 * e[1]), seldom)
