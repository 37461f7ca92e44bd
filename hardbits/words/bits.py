"""Stage 10: bits of a truth, read by a design at a seed, and predictors of them."""

from hardbits.base.checks import need_design, need_number, need_share, need_table, need_word
from hardbits.base.codes import log_of, spelled
from hardbits.base.exact import dot, lowest_row
from hardbits.base.kinds import is_answer, is_lowest_pair, is_truth_within
from hardbits.base.reading import bits_at, counted_bits, excess_of, is_predictor_of, is_within, row_of_predictor
from hardbits.base.reading import row_of_tables, tables_of
from hardbits.errors import InvalidAdvice, InvalidDesign, InvalidTruth, TooMany
from hardbits.words.designs import MOST_PLACES, MOST_TUPLES
from hardbits.words.draws import made_of

_MOST_LETTERS = 6
_MOST_PREDICTORS = 4096


def _need_letters(truth):
    """How many letters the truth has, from 1 to 6; raises if it is none."""
    if not is_truth_within(truth, 2, 1 << _MOST_LETTERS) or log_of(len(truth)) is None:
        raise InvalidTruth("not a truth of 2 to 64 points, 2 ** n of them")
    return log_of(len(truth))


def _need_truth_and_design(truth, l, design):
    n = _need_letters(truth)
    need_number(l, n, MOST_PLACES)
    need_design(design, l)
    if len(design[0]) != n:
        raise InvalidDesign("the tuples have not as many places as the points have bits")


def bits_of(truth, l, design, seed):
    """The bits of the truth at a seed."""
    _need_truth_and_design(truth, l, design)
    need_word(seed, l)
    return bits_at(truth, design, seed)


def drawn_bits(truth, l, design):
    """The draw of words that the bits over all seeds are."""
    _need_truth_and_design(truth, l, design)
    bottom, counts = counted_bits(truth, l, design)
    return lowest_row(bottom, counts)


def _need_truth_design_and_test(truth, l, design, test):
    _need_truth_and_design(truth, l, design)
    need_table(test, len(design))


def bits_excess(truth, l, design, test):
    """The excess of the test for the bits over all seeds."""
    _need_truth_design_and_test(truth, l, design, test)
    return excess_of(counted_bits(truth, l, design), test)


def elder_tables(truth, l, design, i, others):
    """For each elder tuple the table of its bit, by the bits at the places that both have in common."""
    _need_truth_and_design(truth, l, design)
    need_number(i, 0, len(design) - 1)
    need_word(others, l - len(design[0]))
    return tables_of(truth, l, design, i, others)


def is_predictor(l, design, value):
    """Whether the value is a predictor for the design and a test of as many bits as it has tuples."""
    need_number(l, 1, MOST_PLACES)
    need_design(design, l)
    return is_predictor_of(l, design, value)


def _need_predictor(truth, l, design, test, predictor):
    _need_truth_design_and_test(truth, l, design, test)
    if not is_predictor_of(l, design, predictor):
        raise InvalidAdvice("not a predictor for this design and test")


def predicted(truth, l, design, test, predictor):
    """The row of the predictor, a sign for each point."""
    _need_predictor(truth, l, design, test, predictor)
    return row_of_predictor(truth, l, design, test, predictor)


def predictor_sum(truth, l, design, test, predictor):
    """The sum of the products of the truth and the row of the predictor."""
    _need_predictor(truth, l, design, test, predictor)
    return dot(truth, row_of_predictor(truth, l, design, test, predictor))


def _need_all_for_answer(truth, l, design, test, e):
    _need_truth_design_and_test(truth, l, design, test)
    need_share(e)


def _is_followed(truth, l, design, test, e, predictor):
    """Whether the sum of the truth and the row of the predictor has an amount above e N."""
    found = abs(dot(truth, row_of_predictor(truth, l, design, test, predictor)))
    return found * e[1] > e[0] * len(truth)


def following(truth, l, design, test, e):
    """A predictor whose sum has an amount above e N, where the excess has one above m e / 2."""
    # The sums of the predictors with i, last and r have the mean 2 N times the advantage of the made
    # predictor of the drawn bits, so that some of them reach this amount.
    i, last, r = made_of(len(design), counted_bits(truth, l, design), test)
    free = l - len(design[0])
    for number in range(1 << free):
        predictor = (i, spelled(number, free), last, r)
        if _is_followed(truth, l, design, test, e, predictor):
            return predictor
    return None


def bits_answer(truth, l, design, test, e):
    """The excess if it is within m e / 2, otherwise a predictor with a sum above e N, in amount."""
    _need_all_for_answer(truth, l, design, test, e)
    found = excess_of(counted_bits(truth, l, design), test)
    if is_within(found, len(design), e):
        return ("within", found)
    return ("predictor", following(truth, l, design, test, e))


def is_bits_answer(truth, l, design, test, e, value):
    """Whether the value is a right one of both, a predictor also if the excess is within."""
    _need_all_for_answer(truth, l, design, test, e)
    if is_answer(value, "within", 2):
        found = excess_of(counted_bits(truth, l, design), test)
        return is_lowest_pair(value[1]) and value[1] == found and is_within(found, len(design), e)
    if is_answer(value, "predictor", 2) and is_predictor_of(l, design, value[1]):
        return _is_followed(truth, l, design, test, e, value[1])
    return False


def _predictors_count(n, l, m):
    return ((1 << (m + 1)) - 2) << (l - n)


def predictors_number(n, l, m):
    """How many predictors there are for m tuples of n of l places."""
    need_number(n, 1, _MOST_LETTERS)
    need_number(l, n, MOST_PLACES)
    need_number(m, 1, MOST_TUPLES)
    return _predictors_count(n, l, m)


def last_and_bits(length):
    """All pairs of a word of so many last bits and a bit r."""
    return [(spelled(number, length), r) for number in range(1 << length) for r in range(2)]


def rows_of(truth, l, design, test):
    """The ascending tuple of the unlike rows of all predictors."""
    _need_truth_design_and_test(truth, l, design, test)
    m, free = len(design), l - len(design[0])
    if _predictors_count(len(design[0]), l, m) > _MOST_PREDICTORS:
        raise TooMany(_MOST_PREDICTORS)
    rows = {}
    for i in range(m):
        for number in range(1 << free):
            tables = tables_of(truth, l, design, i, spelled(number, free))
            for last, r in last_and_bits(m - i - 1):
                rows[row_of_tables(design, test, i, tables, last, r)] = True
    return tuple(sorted(rows))
