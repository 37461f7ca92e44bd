"""Stage 10: bits of a truth, read by a design at a seed, and predictors of them."""

from hardbits.base.checks import need_design, need_number, need_share, need_table, need_word
from hardbits.base.codes import bit_of, log_of, number_of, sign_of, spelled
from hardbits.base.exact import dot, lowest_row
from hardbits.base.kinds import is_answer, is_bit, is_index, is_lowest_pair, is_truth_within, is_tuple_of, is_word
from hardbits.errors import InvalidAdvice, InvalidDesign, InvalidTruth, TooMany
from hardbits.words.designs import MOST_PLACES, MOST_TUPLES
from hardbits.words.draws import excess_of, made_of

_MOST_LETTERS = 6
_MOST_PREDICTORS = 4096


def _need_letters(truth):
    """How many letters the truth has, from 1 to 6; raises if it is none."""
    if not is_truth_within(truth, 2, 1 << _MOST_LETTERS) or log_of(len(truth)) is None:
        raise InvalidTruth("not a truth of 2 to 64 points, 2 ** n of them")
    return log_of(len(truth))


def _need_truth_and_design(truth, l, design):
    n = _need_letters(truth)
    need_number(l, n, MOST_PLACES)
    need_design(design, l)
    if len(design[0]) != n:
        raise InvalidDesign("the tuples have not as many places as the points have bits")


def _read(seed, places):
    """The number of the word that a tuple of places reads in a seed."""
    return sum([seed[place] << index for index, place in enumerate(places)])


def _bits_at(truth, design, seed):
    return tuple([bit_of(truth[_read(seed, places)]) for places in design])


def bits_of(truth, l, design, seed):
    """The bits of the truth at a seed."""
    _need_truth_and_design(truth, l, design)
    need_word(seed, l)
    return _bits_at(truth, design, seed)


def counted_bits(truth, l, design):
    """The draw of the bits over all seeds, in any terms."""
    counts = [0] * (1 << len(design))
    for number in range(1 << l):
        counts[number_of(_bits_at(truth, design, spelled(number, l)))] += 1
    return (1 << l, tuple(counts))


def drawn_bits(truth, l, design):
    """The draw of words that the bits over all seeds are."""
    _need_truth_and_design(truth, l, design)
    bottom, counts = counted_bits(truth, l, design)
    return lowest_row(bottom, counts)


def _need_truth_design_and_test(truth, l, design, test):
    _need_truth_and_design(truth, l, design)
    need_table(test, len(design))


def bits_excess(truth, l, design, test):
    """The excess of the test for the bits over all seeds."""
    _need_truth_design_and_test(truth, l, design, test)
    return excess_of(counted_bits(truth, l, design), test)


def _filled(l, places, others):
    """The seed with these other bits where the places are not, and noughts at the places."""
    seed = [0] * l
    outside = [place for place in range(l) if place not in places]
    for place, bit in zip(outside, others):
        seed[place] = bit
    return seed


def _table_of(truth, seed, common, elder):
    """The bits that the elder tuple reads for all words at the common places, the seed else as it is."""
    found = []
    for number in range(1 << len(common)):
        tried = list(seed)
        for index, place in enumerate(common):
            tried[place] = number >> index & 1
        found.append(bit_of(truth[_read(tried, elder)]))
    return tuple(found)


def _tables_of(truth, l, design, i, others):
    seed = _filled(l, design[i], others)
    tables = []
    for elder in design[:i]:
        common = [place for place in design[i] if place in elder]
        tables.append(_table_of(truth, seed, common, elder))
    return tuple(tables)


def elder_tables(truth, l, design, i, others):
    """For each elder tuple the table of its bit, by the bits at the places that both have in common."""
    _need_truth_and_design(truth, l, design)
    need_number(i, 0, len(design) - 1)
    need_word(others, l - len(design[0]))
    return _tables_of(truth, l, design, i, others)


def is_predictor(l, design, value):
    """Whether the value is a predictor for the design and a test of as many bits as it has tuples."""
    need_number(l, 1, MOST_PLACES)
    need_design(design, l)
    if not is_tuple_of(value, 4):
        return False
    i, others, last, r = value
    if not is_index(i, len(design)) or not is_word(others, l - len(design[0])):
        return False
    return is_word(last, len(design) - i - 1) and is_bit(r)


def _elder_numbers(design, i, tables):
    """For each point the number of the word of the elder bits that the tables tell there."""
    places = design[i]
    numbers = [0] * (1 << len(places))
    for j, table in enumerate(tables):
        common = [index for index, place in enumerate(places) if place in design[j]]
        for point in range(len(numbers)):
            at = sum([(point >> index & 1) << k for k, index in enumerate(common)])
            numbers[point] += table[at] << j
    return numbers


def row_of_tables(design, test, i, tables, last, r):
    """The row of signs that a predictor, or an advice, with these tables of the elder bits has."""
    behind = (r << i) + (number_of(last) << (i + 1))
    numbers = _elder_numbers(design, i, tables)
    return tuple([sign_of(r if test[number + behind] else 1 - r) for number in numbers])


def row_of_predictor(truth, l, design, test, predictor):
    i, others, last, r = predictor
    return row_of_tables(design, test, i, _tables_of(truth, l, design, i, others), last, r)


def _need_predictor(truth, l, design, test, predictor):
    _need_truth_design_and_test(truth, l, design, test)
    if not is_predictor(l, design, predictor):
        raise InvalidAdvice("not a predictor for this design and test")


def predicted(truth, l, design, test, predictor):
    """The row of the predictor, a sign for each point."""
    _need_predictor(truth, l, design, test, predictor)
    return row_of_predictor(truth, l, design, test, predictor)


def predictor_sum(truth, l, design, test, predictor):
    """The sum of the products of the truth and the row of the predictor."""
    _need_predictor(truth, l, design, test, predictor)
    return dot(truth, row_of_predictor(truth, l, design, test, predictor))


def _need_all_for_answer(truth, l, design, test, e):
    _need_truth_design_and_test(truth, l, design, test)
    need_share(e)


def is_within(number, m, e):
    """Whether the fraction has an amount of at most m e / 2."""
    return 2 * abs(number[0]) * e[1] <= m * e[0] * number[1]


def _is_followed(truth, l, design, test, e, predictor):
    """Whether the sum of the truth and the row of the predictor has an amount above e N."""
    found = abs(dot(truth, row_of_predictor(truth, l, design, test, predictor)))
    return found * e[1] > e[0] * len(truth)


def following(truth, l, design, test, e):
    """A predictor whose sum has an amount above e N, where the excess has one above m e / 2."""
    # The sums of the predictors with i, last and r have the mean 2 N times the advantage of the made
    # predictor of the drawn bits, so that some of them reach this amount.
    i, last, r = made_of(len(design), counted_bits(truth, l, design), test)
    free = l - len(design[0])
    for number in range(1 << free):
        predictor = (i, spelled(number, free), last, r)
        if _is_followed(truth, l, design, test, e, predictor):
            return predictor
    return None


def bits_answer(truth, l, design, test, e):
    """The excess if it is within m e / 2, otherwise a predictor with a sum above e N, in amount."""
    _need_all_for_answer(truth, l, design, test, e)
    found = excess_of(counted_bits(truth, l, design), test)
    if is_within(found, len(design), e):
        return ("within", found)
    return ("predictor", following(truth, l, design, test, e))


def is_bits_answer(truth, l, design, test, e, value):
    """Whether the value is a right one of both, a predictor also if the excess is within."""
    _need_all_for_answer(truth, l, design, test, e)
    if is_answer(value, "within", 2):
        found = excess_of(counted_bits(truth, l, design), test)
        return is_lowest_pair(value[1]) and value[1] == found and is_within(found, len(design), e)
    if is_answer(value, "predictor", 2) and is_predictor(l, design, value[1]):
        return _is_followed(truth, l, design, test, e, value[1])
    return False


def _predictors_count(n, l, m):
    return ((1 << (m + 1)) - 2) << (l - n)


def predictors_number(n, l, m):
    """How many predictors there are for m tuples of n of l places."""
    need_number(n, 1, _MOST_LETTERS)
    need_number(l, n, MOST_PLACES)
    need_number(m, 1, MOST_TUPLES)
    return _predictors_count(n, l, m)


def last_and_bits(length):
    """All pairs of a word of so many last bits and a bit r."""
    return [(spelled(number, length), r) for number in range(1 << length) for r in range(2)]


def rows_of(truth, l, design, test):
    """The ascending tuple of the unlike rows of all predictors."""
    _need_truth_design_and_test(truth, l, design, test)
    m, free = len(design), l - len(design[0])
    if _predictors_count(len(design[0]), l, m) > _MOST_PREDICTORS:
        raise TooMany(_MOST_PREDICTORS)
    rows = {}
    for i in range(m):
        for number in range(1 << free):
            tables = _tables_of(truth, l, design, i, spelled(number, free))
            for last, r in last_and_bits(m - i - 1):
                rows[row_of_tables(design, test, i, tables, last, r)] = True
    return tuple(sorted(rows))
