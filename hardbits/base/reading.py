"""Bits that designs read in seeds, and the rows of what tells them: for values that are known to be right."""

from hardbits.base.codes import bit_of, number_of, sign_of, spelled
from hardbits.base.exact import dot, minus, reduced
from hardbits.base.kinds import is_bit, is_index, is_tuple_of, is_word


def chance_of(draw, test):
    """The chance under the draw that the test meets."""
    return reduced(dot(draw[1], test), draw[0])


def excess_of(draw, test):
    """The chance of the test under the draw, less that under the even one."""
    return minus(chance_of(draw, test), (sum(test), len(test)))


def is_within(number, m, e):
    """Whether the fraction has an amount of at most m e / 2."""
    return 2 * abs(number[0]) * e[1] <= m * e[0] * number[1]


def _read(seed, places):
    """The number of the word that a tuple of places reads in a seed."""
    return sum([seed[place] << index for index, place in enumerate(places)])


def bits_at(truth, design, seed):
    """The bits of the truth at a seed."""
    return tuple([bit_of(truth[_read(seed, places)]) for places in design])


def counted_bits(truth, l, design):
    """The draw of the bits over all seeds, over the number of these."""
    counts = [0] * (1 << len(design))
    for number in range(1 << l):
        counts[number_of(bits_at(truth, design, spelled(number, l)))] += 1
    return (1 << l, tuple(counts))


def _filled(l, places, others):
    """The seed with these other bits where the places are not, and noughts at the places."""
    seed = [0] * l
    outside = [place for place in range(l) if place not in places]
    for place, bit in zip(outside, others):
        seed[place] = bit
    return seed


def _table_of(truth, seed, common, elder):
    """The bits that the elder tuple reads for all words at the common places, the seed else as it is."""
    found = []
    for number in range(1 << len(common)):
        tried = list(seed)
        for index, place in enumerate(common):
            tried[place] = number >> index & 1
        found.append(bit_of(truth[_read(tried, elder)]))
    return tuple(found)


def tables_of(truth, l, design, i, others):
    """For each elder tuple the table of its bit, by the bits at the places that both have in common."""
    seed = _filled(l, design[i], others)
    tables = []
    for elder in design[:i]:
        common = [place for place in design[i] if place in elder]
        tables.append(_table_of(truth, seed, common, elder))
    return tuple(tables)


def is_predictor_of(l, design, value):
    """Whether the value is a predictor for the design and a test of as many bits as it has tuples."""
    if not is_tuple_of(value, 4):
        return False
    i, others, last, r = value
    if not is_index(i, len(design)) or not is_word(others, l - len(design[0])):
        return False
    return is_word(last, len(design) - i - 1) and is_bit(r)


def common_indices(design, i, j):
    """The ascending list of the indices of tuple i whose places stand in tuple j."""
    return [index for index, place in enumerate(design[i]) if place in design[j]]


def _elder_numbers(design, i, tables):
    """For each point the number of the word of the elder bits that the tables tell there."""
    numbers = [0] * (1 << len(design[i]))
    for j, table in enumerate(tables):
        common = common_indices(design, i, j)
        for point in range(len(numbers)):
            at = sum([(point >> index & 1) << k for k, index in enumerate(common)])
            numbers[point] += table[at] << j
    return numbers


def row_of_tables(design, test, i, tables, last, r):
    """The row of signs that a predictor, or an advice, with these tables of the elder bits has."""
    behind = (r << i) + (number_of(last) << (i + 1))
    numbers = _elder_numbers(design, i, tables)
    return tuple([sign_of(r if test[number + behind] else 1 - r) for number in numbers])


def row_of_predictor(truth, l, design, test, predictor):
    """The row of signs that a predictor has for the bits of the truth."""
    i, others, last, r = predictor
    return row_of_tables(design, test, i, tables_of(truth, l, design, i, others), last, r)
