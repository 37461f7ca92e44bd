"""Stage 8: draws of words."""

from hardbits.base.checks import need_draw, need_fraction_between, need_number, need_table, need_word
from hardbits.base.codes import number_of, parity, spelled
from hardbits.base.couplings import gaps_of, is_coupling, is_parting
from hardbits.base.exact import amount, lowest_row, minus, ordered, reduced
from hardbits.base.kinds import is_answer, is_bit, is_index, is_lot, is_mix_within, is_short, is_tuple_of, is_word
from hardbits.base.reading import chance_of, excess_of
from hardbits.errors import InvalidDraw, InvalidOperation, InvalidWord

_MOST_BITS = 6
_MOST_POINTS = 64


def _need_bits(m):
    need_number(m, 1, _MOST_BITS)


def _need_bits_and_draw(m, draw):
    _need_bits(m)
    need_draw(draw, 1 << m)


def words(m):
    """All words of m bits, by numbers."""
    _need_bits(m)
    return tuple([spelled(number, m) for number in range(1 << m)])


def word_number(m, word):
    """The number of a word of m bits."""
    _need_bits(m)
    need_word(word, m)
    return number_of(word)


def draw_of(m, counts):
    """The draw with the counts, divided by their sum, as weights."""
    _need_bits(m)
    if not is_tuple_of(counts, 1 << m) or not all(is_short(count) and count >= 0 for count in counts):
        raise InvalidDraw("not a tuple of a count for each word")
    if sum(counts) == 0:
        raise InvalidDraw("all counts are 0")
    return lowest_row(sum(counts), counts)


def even_draw(m):
    """The draw that gives all words the same weight."""
    _need_bits(m)
    return (1 << m, (1,) * (1 << m))


def excess(m, draw, test):
    """The chance of the test under the draw, less that under the even one."""
    _need_bits_and_draw(m, draw)
    need_table(test, m)
    return excess_of(draw, test)


def _heads(numbers, length):
    """The sums of the numbers of all words with the same first bits, by the numbers of these bits."""
    sums = [0] * (1 << length)
    for word, number in enumerate(numbers):
        sums[word & (1 << length) - 1] += number
    return sums


def _hybrid_of(m, draw, length):
    heads = _heads(draw[1], length)
    spread = [heads[word & (1 << length) - 1] for word in range(1 << m)]
    return lowest_row(draw[0] << (m - length), spread)


def hybrid(m, draw, number):
    """The draw that has the first bits as the draw, and the others even."""
    _need_bits_and_draw(m, draw)
    need_number(number, 0, m)
    return _hybrid_of(m, draw, number)


def steps(m, draw, test):
    """The chances of the test under each hybrid from 1 on, less that under the one ahead of it."""
    _need_bits_and_draw(m, draw)
    need_table(test, m)
    chances = [chance_of(_hybrid_of(m, draw, length), test) for length in range(m + 1)]
    return tuple([minus(chances[i + 1], chances[i]) for i in range(m)])


def _advantage_of(draw, i, bits):
    heads = _heads(draw[1], i + 1)
    met = sum([heads[start + (bit << i)] for start, bit in enumerate(bits)])
    return minus(reduced(met, draw[0]), (1, 2))


def advantage(m, draw, i, bits):
    """The chance that bit i is as the predictor tells, less 1 / 2."""
    _need_bits_and_draw(m, draw)
    need_number(i, 0, m - 1)
    need_table(bits, i)
    return _advantage_of(draw, i, bits)


def _best_table(draw, i):
    heads = _heads(draw[1], i + 1)
    size = 1 << i
    return tuple([1 if heads[start + size] > heads[start] else 0 for start in range(size)])


def _best_advantage(draw, i):
    return _advantage_of(draw, i, _best_table(draw, i))


def best_next(m, draw):
    """The best advantages A(i) of predictors of all bits."""
    _need_bits_and_draw(m, draw)
    return tuple([_best_advantage(draw, i) for i in range(m)])


def best_bits(m, draw, i):
    """A predictor with the advantage A(i)."""
    _need_bits_and_draw(m, draw)
    need_number(i, 0, m - 1)
    return _best_table(draw, i)


def is_best_bits(m, draw, i, value):
    """Whether the value is a predictor with the advantage A(i)."""
    _need_bits_and_draw(m, draw)
    need_number(i, 0, m - 1)
    return is_word(value, 1 << i) and _advantage_of(draw, i, value) == _best_advantage(draw, i)


def _made(test, i, last, r):
    behind = (r << i) + (number_of(last) << (i + 1))
    return tuple([r if test[start + behind] else 1 - r for start in range(1 << i)])


def made_bits(m, test, i, last, r):
    """The bits of the predictor that the test makes with the last bits and the bit r."""
    _need_bits(m)
    need_table(test, m)
    need_number(i, 0, m - 1)
    need_word(last, m - i - 1)
    need_number(r, 0, 1)
    return _made(test, i, last, r)


def _is_enough(m, draw, test, triple):
    """Whether the made predictor has an advantage of at least the excess, divided by m, in amount."""
    i, last, r = triple
    number = amount(_advantage_of(draw, i, _made(test, i, last, r)))
    return ordered((m * number[0], number[1]), amount(excess_of(draw, test))) >= 0


def made_of(m, draw, test):
    """A triple (i, last, r) as made_answer tells, for what is known to be right."""
    for i in range(m):
        for number in range(1 << (m - i - 1)):
            for r in range(2):
                triple = (i, spelled(number, m - i - 1), r)
                if _is_enough(m, draw, test, triple):
                    return triple
    return None


def made_answer(m, draw, test):
    """A made predictor (i, last, r) with at least the excess, divided by m, in amount."""
    _need_bits_and_draw(m, draw)
    need_table(test, m)
    return made_of(m, draw, test)


def is_made_answer(m, draw, test, value):
    """Whether the value is such a triple (i, last, r)."""
    _need_bits_and_draw(m, draw)
    need_table(test, m)
    if not is_tuple_of(value, 3):
        return False
    i, last, r = value
    if not is_index(i, m) or not is_word(last, m - i - 1) or not is_bit(r):
        return False
    return _is_enough(m, draw, test, value)


def test_of(m, i, bits):
    """The test that meets the words whose bit i is as told."""
    _need_bits(m)
    need_number(i, 0, m - 1)
    need_table(bits, i)
    told = [bits[word & (1 << i) - 1] for word in range(1 << m)]
    return tuple([1 if word >> i & 1 == told[word] else 0 for word in range(1 << m)])


def _need_points(draw):
    if not is_mix_within(draw, 1, _MOST_POINTS):
        raise InvalidDraw("not a draw on 1 to 64 points")


def _need_alike(one, other):
    if len(one[1]) != len(other[1]):
        raise InvalidOperation("the draws have unlike numbers of points")


def _distance_of(one, other):
    bottom, gaps = gaps_of(one, other)
    return reduced(sum([abs(gap) for gap in gaps]), 2 * bottom)


def distance(one, other):
    """Half the sum of the amounts of the differences."""
    _need_points(one)
    _need_points(other)
    _need_alike(one, other)
    return _distance_of(one, other)


def _led_across(gaps):
    """What goes from points that have too much to points that lack: a dict from pairs of them."""
    led = {}
    lacking = [max(0, -gap) for gap in gaps]
    for point, gap in enumerate(gaps):
        for goal in range(len(gaps)):
            part = min(gap, lacking[goal])
            if part > 0:
                led[(point, goal)] = part
                gap -= part
                lacking[goal] -= part
    return led


def _coupled(one, other):
    """A coupling of both draws with as little weight for unlike points as can be."""
    bottom, gaps = gaps_of(one, other)
    weights = _led_across(gaps)
    for point, number in enumerate(one[1]):
        stays = number * other[0] - max(0, gaps[point])
        if stays > 0:
            weights[(point, point)] = stays
    return (bottom, {pair: weights[pair] for pair in sorted(weights)})


def _need_draws_and_bound(one, other, s):
    _need_points(one)
    _need_points(other)
    need_fraction_between(s, 0, 1)
    _need_alike(one, other)


def coupling_or_test(one, other, s):
    """A coupling with at most s for unlike points, or a lot that parts the draws by more, for right values."""
    if ordered(_distance_of(one, other), s) <= 0:
        return ("coupling", _coupled(one, other))
    gaps = gaps_of(one, other)[1]
    return ("test", tuple([point for point, gap in enumerate(gaps) if gap > 0]))


def coupling_answer(one, other, s):
    """A coupling with at most s for unlike points, or a lot that parts the draws by more than s."""
    _need_draws_and_bound(one, other, s)
    return coupling_or_test(one, other, s)


def is_coupling_answer(one, other, s, value):
    """Whether the value is such a coupling, or such a lot."""
    _need_draws_and_bound(one, other, s)
    if is_answer(value, "coupling", 2):
        return is_coupling(one, other, s, value[1])
    if is_answer(value, "test", 2):
        return is_parting(one, other, s, value[1])
    return False


def _bias_of(draw, lot):
    mask = sum([1 << place for place in lot])
    signed = [-number if parity(word & mask) else number for word, number in enumerate(draw[1])]
    return reduced(sum(signed), draw[0])


def bias(m, draw, lot):
    """The sum of all weights, each with the sign of the bits at the places of the lot."""
    _need_bits_and_draw(m, draw)
    if not is_lot(lot, m):
        raise InvalidWord("not an ascending tuple of places")
    return _bias_of(draw, lot)


def biases(m, draw):
    """The dict from all lots of places to their biases."""
    _need_bits_and_draw(m, draw)
    chosen = [spelled(number, m) for number in range(1 << m)]
    lots = [tuple([place for place, bit in enumerate(word) if bit]) for word in chosen]
    return {lot: _bias_of(draw, lot) for lot in sorted(lots)}
