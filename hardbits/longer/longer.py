"""Stage 15: longer words, told bit by bit from maps of seeds."""

from hardbits.base.checks import need_fraction_between, need_number, need_share, need_table, need_word
from hardbits.base.codes import bit_of, log_of, number_of, parity, spelled
from hardbits.base.exact import amount, minus, ordered, reduced
from hardbits.base.kinds import is_answer, is_lowest_pair, is_places, is_signs, is_word
from hardbits.base.leading import strings_above
from hardbits.errors import InvalidFraction, InvalidMaps, InvalidTruth, InvalidWord

_MOST_SEED = 6
_MOST_TOLD = 8
_MOST_HALF_SEED = 3


def _log_within(value, most):
    """The l from 1 to most for which the value is a tuple of 2 ** l members, or None."""
    if not isinstance(value, tuple) or not 2 <= len(value) <= 1 << most:
        return None
    return log_of(len(value))


def _need_map(table):
    """The l of a map; raises if it is none."""
    length = _log_within(table, _MOST_SEED)
    if length is None or not all(is_word(word, length + 1) for word in table):
        raise InvalidMaps("not a word of l + 1 bits for each seed")
    return length


def _need_map_and_told(table, k):
    """The l of a map with k told bits."""
    length = _need_map(table)
    need_number(k, 1, _MOST_TOLD)
    return length


def _led(table, seed, count):
    """The told bits of a seed, so many, and the last seed, both seeds by their numbers."""
    length, told = log_of(len(table)), []
    for _ in range(count):
        word = table[seed]
        seed = number_of(word[:length])
        told.append(word[length])
    return (tuple(told), seed)


def led_on(table, seed, k):
    """The word of the k told bits of a seed, and the last seed."""
    length = _need_map(table)
    need_word(seed, length)
    need_number(k, 1, _MOST_TOLD)
    told, last = _led(table, number_of(seed), k)
    return (told, spelled(last, length))


def _excess_over(words, test):
    """The chance that the test meets one of the words, less that over all words."""
    met = sum([test[number_of(word)] for word in words])
    return minus(reduced(met, len(words)), reduced(sum(test), len(test)))


def map_excess(table, test):
    """The chance that the test meets the map's word over all seeds, less that over all words."""
    need_table(test, _need_map(table) + 1)
    return _excess_over(table, test)


def _long_excess(table, k, test):
    return _excess_over([_led(table, seed, k)[0] for seed in range(len(table))], test)


def long_excess(table, k, test):
    """The chance that the test meets the k told bits over all seeds, less that over all words."""
    _need_map_and_told(table, k)
    need_table(test, k)
    return _long_excess(table, k, test)


def _step_test(table, k, test, first):
    seeds, behind = len(table), k - len(first) - 1
    tails = [_led(table, seed, behind)[0] for seed in range(seeds)]
    return tuple([test[number_of(first + (bit,) + tails[seed])] for bit in range(2) for seed in range(seeds)])


def _is_first(value, k):
    """Whether the value is a word of 0 to k - 1 bits."""
    return isinstance(value, tuple) and len(value) < k and is_word(value, len(value))


def step_test(table, k, test, first):
    """The test of l + 1 bits that puts the word's last bit, and what its seed tells, behind the first bits."""
    _need_map_and_told(table, k)
    need_table(test, k)
    if not _is_first(first, k):
        raise InvalidWord("not a word of 0 to k - 1 bits")
    return _step_test(table, k, test, first)


def _is_step(table, k, test, e, first):
    """Whether the step test of the first bits has a map excess of an amount above e."""
    return ordered(amount(_excess_over(table, _step_test(table, k, test, first))), e) > 0


def _need_all_for_answer(table, k, test, e):
    _need_map_and_told(table, k)
    need_table(test, k)
    need_fraction_between(e, 0, 1)


def _is_little(number, k, e):
    """Whether the fraction has an amount of at most k e."""
    return ordered(amount(number), (k * e[0], e[1])) <= 0


def _first_step(table, k, test, e):
    """First bits whose step test has a map excess of an amount above e, where the long excess is above k e."""
    for length in range(k):
        for number in range(1 << length):
            first = spelled(number, length)
            if _is_step(table, k, test, e, first):
                return first
    return None


def long_answer(table, k, test, e):
    """The long excess if it is within k e, otherwise first bits whose step test has a map excess above e."""
    _need_all_for_answer(table, k, test, e)
    found = _long_excess(table, k, test)
    if _is_little(found, k, e):
        return ("within", found)
    return ("step", _first_step(table, k, test, e))


def is_long_answer(table, k, test, e, value):
    """Whether the value is a right one of both."""
    _need_all_for_answer(table, k, test, e)
    if is_answer(value, "within", 2):
        found = _long_excess(table, k, test)
        return is_lowest_pair(value[1]) and value[1] == found and _is_little(found, k, e)
    if is_answer(value, "step", 2):
        return _is_first(value[1], k) and _is_step(table, k, test, e, value[1])
    return False


def _need_turn(turn, most):
    """The l of a turn of 1 to most bits; raises if it is none."""
    length = _log_within(turn, most)
    if length is None or not is_places(turn, len(turn), len(turn)):
        raise InvalidMaps("not all numbers of l bits, each once")
    return length


def bit_map(turn, truth):
    """The map that leads x to the word of turn[x] and the bit of the truth at x."""
    length = _need_turn(turn, _MOST_SEED)
    if not is_signs(truth, len(turn)):
        raise InvalidTruth("not a sign for each point of the turn")
    return tuple([spelled(goal, length) + (bit_of(sign),) for goal, sign in zip(turn, truth)])


def _guesses(test):
    """At each word the test's bit with 0 behind the word, less that with 1."""
    half = len(test) // 2
    return tuple([zero - one for zero, one in zip(test[:half], test[half:])])


def guess_row(test):
    """The row of the guesses of a test of l + 1 bits."""
    length = _log_within(test, _MOST_SEED + 1)
    if length is None or length < 2 or not is_word(test, len(test)):
        raise InvalidWord("not a test of 2 to 7 bits")
    return (1, _guesses(test))


def string_map(turn):
    """The map that leads (x, r) to the word of turn[x], r, and the bit x . r."""
    length = _need_turn(turn, _MOST_HALF_SEED)
    size = 1 << length
    return tuple([spelled(turn[x], length) + spelled(r, length) + (parity(x & r),) for r in range(size)
                  for x in range(size)])


def back_list(turn, test, e):
    """The ascending tuple of the words x that stand in the list of the guesses at turn[x]."""
    length = _need_turn(turn, _MOST_HALF_SEED)
    need_table(test, 2 * length + 1)
    need_share(e)
    if e[0] == e[1]:
        raise InvalidFraction("not a fraction below 1")
    size, guesses = 1 << length, _guesses(test)
    found = []
    for x in range(size):
        # The guesses at (y, r) for all r have the numbers y + r N.
        row = (1, guesses[turn[x]::size])
        if spelled(x, length) in strings_above(row, e):
            found.append(spelled(x, length))
    return tuple(sorted(found))
