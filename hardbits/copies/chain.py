"""Stage 14: from bits that a test can tell back to a truth that lines can follow."""

from hardbits.base.checks import need_design, need_fraction_between, need_mix, need_number, need_share, need_table
from hardbits.base.codes import log_of
from hardbits.base.copying import bound_of, copies_of, lines_of
from hardbits.base.exact import reduced
from hardbits.base.kinds import is_answer, is_lowest_pair, is_truth_within
from hardbits.base.margins import is_mix_above
from hardbits.base.reading import counted_bits, excess_of, is_predictor_of, is_within, row_of_predictor
from hardbits.copies.copies import MOST_COPIES
from hardbits.core.edges import edge_of
from hardbits.core.votes import vote_row_of, wrong_points_of
from hardbits.errors import InvalidAdvice, InvalidDesign, InvalidTruth
from hardbits.words.bits import following
from hardbits.words.designs import MOST_PLACES, MOST_TUPLES

_MOST_CHAIN_POINTS = 8


def chain_bound(m, k, d, e):
    """The excess of a test, in amount, up to which no truth need be followed."""
    need_number(m, 1, MOST_TUPLES)
    need_number(k, 1, MOST_COPIES)
    need_share(d)
    need_fraction_between(e, 0, 1)
    top, bottom = bound_of(d, e, k)
    return reduced(m * top, 2 * bottom)


def _need_truth_and_test(truth, k, l, design, test):
    if not is_truth_within(truth, 2, _MOST_CHAIN_POINTS) or log_of(len(truth)) is None:
        raise InvalidTruth("not a truth of 2, 4 or 8 points")
    need_number(k, 1, MOST_COPIES)
    need_number(l, 1, MOST_PLACES)
    need_design(design, l)
    if len(design[0]) != k * log_of(len(truth)):
        raise InvalidDesign("the tuples have not as many places as the points of copies have bits")
    need_table(test, len(design))


def _copied(truth, k):
    """The copies of k times the truth, as a truth of N ** k points."""
    return copies_of((truth,) * k)


def _excess(truth, k, l, design, test):
    return excess_of(counted_bits(_copied(truth, k), l, design), test)


def chain_excess(truth, k, l, design, test):
    """The excess of the bits of the copies."""
    _need_truth_and_test(truth, k, l, design, test)
    return _excess(truth, k, l, design, test)


def _need_predictor(l, design, predictor):
    if not is_predictor_of(l, design, predictor):
        raise InvalidAdvice("not a predictor for this design and test")


def _lines(truth, k, l, design, test, predictor):
    """The lines of the predictor's row."""
    row = row_of_predictor(_copied(truth, k), l, design, test, predictor)
    return lines_of(len(truth), k, row)


def chain_lines(truth, k, l, design, test, predictor):
    """The ascending tuple of the lines of the predictor's row."""
    _need_truth_and_test(truth, k, l, design, test)
    _need_predictor(l, design, predictor)
    return _lines(truth, k, l, design, test, predictor)


def _need_all_for_answer(truth, k, l, design, test, d, e):
    _need_truth_and_test(truth, k, l, design, test)
    need_share(d)
    need_fraction_between(e, 0, 1)


def following_mix(truth, k, l, design, test, d, e):
    """A predictor, and a mix of its lines that is above e for d, where the excess is not within the chain bound."""
    # Its sum with the copies is above what cores would let, so that a mix of its lines bars each core.
    predictor = following(_copied(truth, k), l, design, test, bound_of(d, e, k))
    family = _lines(truth, k, l, design, test, predictor)
    return (predictor, edge_of(truth, family, d)[2])


def chain_answer(truth, k, l, design, test, d, e):
    """The excess if it is within the chain bound, otherwise a predictor with a mix of its lines above e."""
    _need_all_for_answer(truth, k, l, design, test, d, e)
    found = _excess(truth, k, l, design, test)
    if is_within(found, len(design), bound_of(d, e, k)):
        return ("within", found)
    predictor, mix = following_mix(truth, k, l, design, test, d, e)
    return ("mix", predictor, mix)


def _is_followed(truth, k, l, design, test, d, e, predictor, mix):
    """Whether these are a predictor and a mix of its lines that is above e."""
    if not is_predictor_of(l, design, predictor):
        return False
    return is_mix_above(truth, _lines(truth, k, l, design, test, predictor), d, e, mix)


def is_chain_answer(truth, k, l, design, test, d, e, value):
    """Whether the value is a right one of both, a mix also if the excess is within."""
    _need_all_for_answer(truth, k, l, design, test, d, e)
    if is_answer(value, "within", 2):
        found = _excess(truth, k, l, design, test)
        return is_lowest_pair(value[1]) and value[1] == found and is_within(found, len(design), bound_of(d, e, k))
    if is_answer(value, "mix", 3):
        return _is_followed(truth, k, l, design, test, d, e, value[1], value[2])
    return False


def chain_vote(truth, k, l, design, test, predictor, mix):
    """The vote row of a mix of the predictor's lines, and the points at which it is wrong."""
    _need_truth_and_test(truth, k, l, design, test)
    _need_predictor(l, design, predictor)
    family = _lines(truth, k, l, design, test, predictor)
    need_mix(mix, len(family))
    row = vote_row_of(family, mix)
    return (row, wrong_points_of(truth, row))
