"""Stage 20: trees of bits, and those who ask for their leaves."""

from hardbits.base.checks import need_number, need_word
from hardbits.base.exact import amount, minus, ordered, plus, reduced
from hardbits.base.kinds import is_bit, is_index, is_tuple_of
from hardbits.errors import InvalidMaps, InvalidOperation, TooMany

MOST_QUESTIONS = 3

_MOST_BITS = 3
_MOST_LEVELS = 4
_MOST_WORK = 60000


def _need_bits(n):
    need_number(n, 1, _MOST_BITS)


def _need_levels(t):
    need_number(t, 1, _MOST_LEVELS)


def need_asker_sizes(n, t):
    """Raises unless these are numbers of bits and of levels."""
    _need_bits(n)
    _need_levels(t)


def _is_pair(value, size):
    return is_tuple_of(value, 2) and is_index(value[0], size) and is_index(value[1], size)


def _need_doubling(n, doubling):
    _need_bits(n)
    if not is_tuple_of(doubling, 1 << n) or not all(_is_pair(pair, 1 << n) for pair in doubling):
        raise InvalidMaps("not a pair of words for each word")


def _is_asker(n, t, value, left):
    """Whether the value is an asker with at most so many questions left along each way."""
    if is_bit(value):
        return True
    if left == 0 or not is_tuple_of(value, 2) or not is_index(value[0], 1 << t):
        return False
    branches = value[1]
    return is_tuple_of(branches, 1 << n) and all([_is_asker(n, t, branch, left - 1) for branch in branches])


def is_asker(n, t, value):
    """Whether the value is an asker."""
    need_asker_sizes(n, t)
    return _is_asker(n, t, value, MOST_QUESTIONS)


def need_asker(n, t, asker):
    """Raises unless these are numbers of bits and of levels, and an asker."""
    need_asker_sizes(n, t)
    if not _is_asker(n, t, asker, MOST_QUESTIONS):
        raise InvalidOperation("not an asker")


def _need_tree_and_asker(n, doubling, t, asker):
    _need_doubling(n, doubling)
    need_asker(n, t, asker)


def _led(doubling, word, x, levels):
    """The word to which so many steps by the bits of x lead, the first bit first."""
    for level in range(levels):
        word = doubling[word][x >> level & 1]
    return word


def tree_word(n, doubling, t, seed, x):
    """The leaf at x below the seed."""
    _need_doubling(n, doubling)
    _need_levels(t)
    need_number(seed, 0, (1 << n) - 1)
    need_number(x, 0, (1 << t) - 1)
    return _led(doubling, seed, x, t)


def _questions_of(asker):
    if is_bit(asker):
        return 0
    return 1 + max([_questions_of(branch) for branch in asker[1]])


def questions(n, t, asker):
    """The greatest number of questions along a way."""
    need_asker(n, t, asker)
    return _questions_of(asker)


def _end_for(doubling, t, asker, seed):
    """The end to which the leaves below the seed lead."""
    while not is_bit(asker):
        x, branches = asker
        asker = branches[_led(doubling, seed, x, t)]
    return asker


def _real(doubling, t, asker):
    return reduced(sum([_end_for(doubling, t, asker, seed) for seed in range(len(doubling))]), len(doubling))


def real_chance(n, doubling, t, asker):
    """The chance of the end 1 over all seeds."""
    _need_tree_and_asker(n, doubling, t, asker)
    return _real(doubling, t, asker)


def _even(asker, known):
    """The chance of the end 1, with drawn words for all that is not known; `known` are pairs of x and its answer."""
    if is_bit(asker):
        return (asker, 1)
    x, branches = asker
    answers = [answer for asked, answer in known if asked == x]
    if answers:
        return _even(branches[answers[0]], known)
    total = (0, 1)
    for answer, branch in enumerate(branches):
        total = plus(total, _even(branch, known + [(x, answer)]))
    return reduced(total[0], total[1] * len(branches))


def even_chance(n, t, asker):
    """The chance of the end 1 over words that are drawn for each x."""
    need_asker(n, t, asker)
    return _even(asker, [])


def _edge(doubling, t, asker):
    return minus(_real(doubling, t, asker), _even(asker, []))


def asker_edge(n, doubling, t, asker):
    """The chance of the end 1 over all seeds, less that over drawn words."""
    _need_tree_and_asker(n, doubling, t, asker)
    return _edge(doubling, t, asker)


def _pair_edge(n, doubling, test):
    met = sum([test[one + (other << n)] for one, other in doubling])
    return minus(reduced(met, len(doubling)), reduced(sum(test), len(test)))


def pair_edge(n, doubling, test):
    """The chance that the test meets the pair of a drawn word, less that over all pairs."""
    _need_doubling(n, doubling)
    need_word(test, 1 << 2 * n)
    return _pair_edge(n, doubling, test)


def _end_behind(doubling, t, asker, i, pairs):
    """The end, if below the nodes of level i, as the asker comes to them, these pairs stand."""
    numbers = {}
    while not is_bit(asker):
        x, branches = asker
        node = x & (1 << i) - 1
        if node not in numbers:
            numbers[node] = len(numbers)
        word = pairs[numbers[node]][x >> i & 1]
        asker = branches[_led(doubling, word, x >> (i + 1), t - i - 1)]
    return asker


def _made(n, doubling, t, asker, i, j, others):
    """The made test."""
    ahead, behind = list(others[:j]), [doubling[word] for word in others[j + 1:]]
    size = 1 << n
    # Pair (u, v) has the number u + 2 ** n v, so that u goes through all words for each v.
    pairs = [(u, v) for v in range(size) for u in range(size)]
    return tuple([_end_behind(doubling, t, asker, i, ahead + [pair] + behind) for pair in pairs])


def _are_others(n, q, j, value):
    """Whether the value is a pair for each index below j, None for j, a word for each one above."""
    if not is_tuple_of(value, q) or value[j] is not None:
        return False
    if not all(_is_pair(pair, 1 << n) for pair in value[:j]):
        return False
    return all(is_index(word, 1 << n) for word in value[j + 1:])


def _need_step(t, asker, i, j):
    need_number(i, 0, t - 1)
    need_number(j, 0, _questions_of(asker) - 1)


def made_test(n, doubling, t, asker, i, j, others):
    """The test of pairs of words that is made at level i, with index j tested."""
    _need_tree_and_asker(n, doubling, t, asker)
    _need_step(t, asker, i, j)
    if not _are_others(n, _questions_of(asker), j, others):
        raise InvalidOperation("not a pair for each index below j, None, and a word for each one above")
    return _made(n, doubling, t, asker, i, j, others)


def _others_number(n, q, j):
    """How many others there are for j."""
    return 1 << n * (2 * j + q - 1 - j)


def _need_little_work(n, t, asker):
    q = _questions_of(asker)
    if t * sum([_others_number(n, q, j) for j in range(q)]) << 2 * n > _MOST_WORK:
        raise TooMany(_MOST_WORK)


def _told_at(n, index, j):
    """What the others can tell at an index: the pairs below j, None at it, the words above."""
    size = 1 << n
    if index < j:
        return [(u, v) for u in range(size) for v in range(size)]
    return list(range(size)) if index > j else [None]


def _all_others(n, q, j):
    """All others for j."""
    found = [()]
    for index in range(q):
        told = _told_at(n, index, j)
        found = [others + (one,) for others in found for one in told]
    return found


def step_mean(n, doubling, t, asker, i, j):
    """The mean of the edges of the made tests over all others."""
    _need_tree_and_asker(n, doubling, t, asker)
    _need_step(t, asker, i, j)
    _need_little_work(n, t, asker)
    total, found = (0, 1), _all_others(n, _questions_of(asker), j)
    for others in found:
        total = plus(total, _pair_edge(n, doubling, _made(n, doubling, t, asker, i, j, others)))
    return reduced(total[0], total[1] * len(found))


def _need_all_for_broken(n, doubling, t, asker):
    _need_tree_and_asker(n, doubling, t, asker)
    if is_bit(asker):
        raise InvalidOperation("the asker has no question")
    _need_little_work(n, t, asker)


def _least_break(doubling, t, asker):
    """The amount of the asker's edge, divided by q t."""
    number = amount(_edge(doubling, t, asker))
    return reduced(number[0], number[1] * _questions_of(asker) * t)


def _is_breaking(n, doubling, t, asker, triple, least):
    """Whether the made test has an edge of an amount of at least this."""
    i, j, others = triple
    return ordered(amount(_pair_edge(n, doubling, _made(n, doubling, t, asker, i, j, others))), least) >= 0


def broken_by(n, doubling, t, asker):
    """A triple (i, j, others) whose test has an edge of at least the asker's, divided by q t, in amount."""
    _need_all_for_broken(n, doubling, t, asker)
    q, least = _questions_of(asker), _least_break(doubling, t, asker)
    for i in range(t):
        for j in range(q):
            for others in _all_others(n, q, j):
                if _is_breaking(n, doubling, t, asker, (i, j, others), least):
                    return (i, j, others)
    return None


def is_broken_by(n, doubling, t, asker, value):
    """Whether the value is such a triple (i, j, others)."""
    _need_all_for_broken(n, doubling, t, asker)
    if not is_tuple_of(value, 3):
        return False
    i, j, others = value
    q = _questions_of(asker)
    if not is_index(i, t) or not is_index(j, q) or not _are_others(n, q, j, others):
        return False
    return _is_breaking(n, doubling, t, asker, value, _least_break(doubling, t, asker))
