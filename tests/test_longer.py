"""[15.1] to [15.6]: longer words. What is told is worked out here by the words of the document."""

import random
import unittest
from fractions import Fraction
from itertools import permutations, product

from hardbits.errors import InvalidFraction, InvalidMaps, InvalidNumber, InvalidTruth, InvalidWord
from hardbits.linear.linear import linear_list
from hardbits.longer.longer import (back_list, bit_map, guess_row, is_long_answer, led_on, long_answer, long_excess,
                                    map_excess, step_test, string_map)
from tests.support import BAD_FRACTIONS, BAD_NUMBERS, Case, DEEP, HUGE, LONG
from tests.test_draws import all_words, number_of
from tests.test_fractions import pair
from tests.test_truths import BAD_TRUTHS

EVER, EQUAL, KNOWN = ((0, 1), (1, 0)), (1, 0, 0, 1), (1, 1, 1, 0, 0, 0, 0, 1)
BAD_TABLES = (None, 1, True, (), ((0, 1),), ((0, 1),) * 3, ((0, 1),) * 4, ((0,), (1,)), ((0, 1, 1), (1, 0, 1)), ((0, 1), (1,)),
              [(0, 1), (1, 0)], ((0, 1), [1, 0]), ((0, 1), (1, 2)), ((0, 1), (1, True)), ((0, 1), (1, None)), ((0, 1), None),
              ((0, 1), (1, HUGE)), ((0,) * 8,) * 128, (0, 1), "01", {}, DEEP)
BAD_K = BAD_NUMBERS + (0, 9)
# Wrong words of one bit, and wrong tests of two bits.
BAD_SEEDS = (None, 1, 0, True, (), (0, 0), [0], (2,), (True,), (-1,), (None,), ((0,),), "0", DEEP, {}, HUGE, (HUGE,))
BAD_TESTS = (None, 1, True, (), (0,), (0, 1), (0, 1, 1), (0, 1, 1, 0, 1), (0, 1) * 4, [0, 1, 1, 0], (0, 1, 1, 2), (0, 1, 1, -1),
             (0, 1, 1, True), (0, 1, 1, None), "0110", DEEP, {}, HUGE, (0, 1, 1, HUGE))
EDGES = BAD_FRACTIONS + ((-1, 2), (3, 2), (2, 1), (999999999, 999999998))
BAD_TURNS = (None, 1, True, (), (0,), (0, 1, 2), (0, 0), (1, 1), (0, 2), (1, 2), (-1, 0), [0, 1], (0, True), (False, 1), (0, None),
             ("0", 1), ((0,), 1), (0, 1, 2, 4), (0, 1, 2, 2), (0, HUGE), "01", {}, DEEP)


def letters(table):
    return len(table).bit_length() - 1


def led_by_words(table, seed, k):
    told = []
    for _ in range(k):
        word = table[number_of(seed)]
        seed = word[:-1]
        told.append(word[-1])
    return tuple(told), seed


def map_excess_by_words(table, test):
    met = sum(test[number_of(word)] for word in table)
    return Fraction(met, len(table)) - Fraction(sum(test), len(test))


def long_excess_by_words(table, k, test):
    met = sum(test[number_of(led_by_words(table, seed, k)[0])] for seed in all_words(letters(table)))
    return Fraction(met, len(table)) - Fraction(sum(test), 2 ** k)


def step_by_words(table, k, test, first):
    found = []
    for word in all_words(letters(table) + 1):
        behind = led_by_words(table, word[:-1], k - len(first) - 1)[0]
        found.append(test[number_of(first + (word[-1],) + behind)])
    return tuple(found)


def firsts(k):
    return [first for length in range(k) for first in all_words(length)]


def some_maps(seed, most=3, many=3):
    source = random.Random(seed)
    for l in range(1, most + 1):
        yield ((0,) * (l + 1),) * 2 ** l
        yield tuple(word + (sum(word) % 2,) for word in all_words(l))
        for _ in range(many):
            yield tuple(tuple(source.randint(0, 1) for _ in range(l + 1)) for _ in range(2 ** l))


def some_tests(source, k, many=3):
    yield (0,) * 2 ** k
    yield (1,) * 2 ** k
    yield tuple(1 - sum(word) % 2 for word in all_words(k))
    for _ in range(many):
        yield tuple(source.randint(0, 1) for _ in range(2 ** k))


def some_cases(seed, most=3, longest=4):
    source = random.Random(seed)
    for table in some_maps(seed, most):
        for k in range(1, longest + 1):
            for test in some_tests(source, k):
                yield table, k, test


class LedOn(Case):

    def test_led_on(self):
        for table in some_maps(1, 4):
            for seed in all_words(letters(table)):
                for k in range(1, 9):
                    self.assertEqual(led_on(table, seed, k), led_by_words(table, seed, k))

    def test_seeds_by_their_numbers(self):
        # The seed (1, 0) has the number 1, (0, 1) the number 2.
        table = ((0, 0, 0), (0, 1, 1), (1, 1, 0), (1, 0, 1))
        self.assertEqual(led_on(table, (1, 0), 1), ((1,), (0, 1)))
        self.assertEqual(led_on(table, (1, 0), 3), ((1, 0, 1), (1, 0)))
        self.assertEqual(led_on(((0,) * 7,) * 63 + ((1,) * 7,), (1,) * 6, 8), ((1,) * 8, (1,) * 6))

    def test_errors(self):
        bad = [(InvalidMaps, BAD_TABLES), (InvalidWord, BAD_SEEDS), (InvalidNumber, BAD_K)]
        self.refuses(led_on, [EVER, (0,), 8], bad)
        self.refuses(led_on, [EVER, (1,), 1], bad)


class Excesses(Case):

    def test_map_excesses(self):
        source = random.Random(10)
        for table in some_maps(10, 6):
            for test in some_tests(source, letters(table) + 1):
                self.assertEqual(map_excess(table, test), pair(map_excess_by_words(table, test)))

    def test_long_excesses(self):
        for table, k, test in some_cases(11, 4, 5):
            self.assertEqual(long_excess(table, k, test), pair(long_excess_by_words(table, k, test)))
        source = random.Random(12)
        for table in some_maps(12, 6, 1):
            test = tuple(source.randint(0, 1) for _ in range(256))
            self.assertEqual(long_excess(table, 8, test), pair(long_excess_by_words(table, 8, test)))

    def test_step_tests(self):
        for table, k, test in some_cases(13):
            for first in firsts(k):
                self.assertEqual(step_test(table, k, test, first), step_by_words(table, k, test, first))

    def test_steps_add_up(self):
        for table, k, test in some_cases(14):
            total, greatest = Fraction(0), Fraction(0)
            for i in range(k):
                numbers = [Fraction(*map_excess(table, step_test(table, k, test, first))) for first in all_words(i)]
                total += sum(numbers) / len(numbers)
                greatest = max([greatest] + [abs(number) for number in numbers])
            self.assertEqual(total, Fraction(*long_excess(table, k, test)))
            self.assertGreaterEqual(greatest * k, abs(total))

    def test_first_bits_at_their_bounds(self):
        source = random.Random(15)
        table, test = next(some_maps(15, 1, 0)), tuple(source.randint(0, 1) for _ in range(256))
        for table in some_maps(16, 2, 1):
            for first in ((), (1,), (0, 1, 1, 0, 1, 0, 0), (1,) * 7):
                self.assertEqual(step_test(table, 8, test, first), step_by_words(table, 8, test, first))
            self.fails(InvalidWord, step_test, table, 8, test, (0,) * 8)
        self.assertEqual(step_test(EVER, 1, (0, 1), ()), (0, 0, 1, 1))
        self.fails(InvalidWord, step_test, EVER, 1, (0, 1), (0,))

    def test_errors(self):
        bad = [(InvalidMaps, BAD_TABLES), (InvalidNumber, BAD_K), (InvalidWord, BAD_TESTS)]
        self.refuses(map_excess, [EVER, EQUAL], [bad[0], bad[2]])
        self.refuses(long_excess, [EVER, 2, EQUAL], bad)
        firsts_of = tuple(value for value in BAD_SEEDS if value not in ((), (0,)))
        self.refuses(step_test, [EVER, 2, EQUAL, ()], bad + [(InvalidWord, firsts_of)])
        self.refuses(step_test, [EVER, 2, EQUAL, (1,)], bad + [(InvalidWord, firsts_of + ((0, 1),))])
        self.fails(InvalidWord, map_excess, ((0, 0, 0),) * 4, EQUAL)


def is_right(table, k, test, e, value):
    """Whether the value, of the right form, is right by the words."""
    if value[0] == "within":
        number = long_excess_by_words(table, k, test)
        return value[1] == pair(number) and abs(number) <= k * Fraction(*e)
    return abs(map_excess_by_words(table, step_by_words(table, k, test, value[1]))) > Fraction(*e)


class Answers(Case):

    def edges(self, table, k, test):
        """Edges that the excess is just at, or a little above or below, and others."""
        at = abs(long_excess_by_words(table, k, test)) / k
        found = {Fraction(0), Fraction(1), Fraction(1, 9), at, at * Fraction(999, 1000), at * Fraction(1001, 1000)}
        return [pair(e) for e in sorted(found) if 0 <= e <= 1]

    def test_answers(self):
        kinds = {"within": 0, "step": 0}
        for table, k, test in some_cases(20):
            number = abs(long_excess_by_words(table, k, test))
            for e in self.edges(table, k, test):
                answer = long_answer(table, k, test, e)
                kinds[answer[0]] += 1
                self.assertEqual(answer[0], "within" if number <= k * Fraction(*e) else "step")
                self.assertTrue(is_right(table, k, test, e, answer))
                self.assertIs(is_long_answer(table, k, test, e, answer), True)
        self.assertGreater(min(kinds.values()), 100)

    def test_greatest_sizes(self):
        source = random.Random(21)
        for table in some_maps(21, 6, 1):
            test = tuple(source.randint(0, 1) for _ in range(256))
            for e in ((0, 1), (1, 100), (1, 1)):
                answer = long_answer(table, 8, test, e)
                self.assertTrue(is_right(table, 8, test, e, answer))
                self.assertIs(is_long_answer(table, 8, test, e, answer), True)

    def test_the_judge_takes_all_right_answers_and_no_others(self):
        for table, k, test in some_cases(22, 2, 3):
            number = long_excess_by_words(table, k, test)
            for e in self.edges(table, k, test):
                for other in (number, -number, number / 2, Fraction(0), Fraction(1, 2)):
                    value = ("within", pair(other))
                    self.assertIs(is_long_answer(table, k, test, e, value), is_right(table, k, test, e, value))
                for first in firsts(k):
                    value = ("step", first)
                    self.assertIs(is_long_answer(table, k, test, e, value), is_right(table, k, test, e, value))
                for first in all_words(k):
                    self.assertIs(is_long_answer(table, k, test, e, ("step", first)), False)

    def test_near_values(self):
        bad = (("within", (2, 4)), ("within", (1, 3)), ("within", (-1, 2)), ("within", (HUGE, 2 * HUGE)), ("within", (LONG, 2 * LONG)),
               ("within", (1, 2), 0), ("step", (0, 0)), ("step", (2,)), ("step", (True,)), ("step", (HUGE,)), ("step", 0), ("step", ()) + (0,),
               ("first", ()), ("step", None), ("within",), ("step",), ("step", (0,) * 200))
        # Just k e is within, and the step test of no bits is above e all the same.
        self.judged(is_long_answer, (EVER, 2, EQUAL, (1, 4)), (("within", (1, 2)), ("step", ())), bad + (("step", (0,)), ("step", (1,))))
        self.judged(is_long_answer, (EVER, 2, EQUAL, (24999, 100000)), (("step", ()),), bad + (("within", (1, 2)),))
        # Just e is not above it.
        self.judged(is_long_answer, (EVER, 2, EQUAL, (1, 2)), (("within", (1, 2)),), bad + (("step", ()),))
        self.judged(is_long_answer, (EVER, 2, (1, 0, 1, 0), (0, 1)), (("within", (0, 1)),), (("step", ()), ("step", (0,)), ("step", (1,))))

    def test_errors(self):
        bad = [(InvalidMaps, BAD_TABLES), (InvalidNumber, BAD_K), (InvalidWord, BAD_TESTS), (InvalidFraction, EDGES)]
        self.refuses(long_answer, [EVER, 2, EQUAL, (0, 1)], bad)
        self.refuses(long_answer, [EVER, 2, EQUAL, (1, 1)], bad)
        self.refuses(is_long_answer, [EVER, 2, EQUAL, (1, 3), None], bad + [None])


def some_turns(seed, most, many=3):
    source = random.Random(seed)
    for l in range(1, most + 1):
        yield tuple(range(2 ** l))
        yield tuple(range(2 ** l))[::-1]
        for _ in range(many):
            yield tuple(source.sample(range(2 ** l), 2 ** l))


class Turns(Case):

    def test_bit_maps(self):
        source = random.Random(30)
        for turn in some_turns(30, 6):
            l = letters(turn)
            truth = tuple(source.choice((1, -1)) for _ in turn)
            told = bit_map(turn, truth)
            self.assertEqual(told, tuple(all_words(l)[turn[x]] + (0 if truth[x] == 1 else 1,) for x in range(2 ** l)))
            test = tuple(source.randint(0, 1) for _ in range(2 ** (l + 1)))
            bottom, guesses = guess_row(test)
            self.assertEqual(bottom, 1)
            self.assertEqual(guesses, tuple(test[number_of(y + (0,))] - test[number_of(y + (1,))] for y in all_words(l)))
            together = sum(truth[x] * guesses[turn[x]] for x in range(2 ** l))
            self.assertEqual(together, 2 ** (l + 1) * Fraction(*map_excess(told, test)))

    def test_string_maps(self):
        for turn in some_turns(31, 3):
            n = letters(turn)
            words, told = all_words(n), string_map(turn)
            self.assertEqual(len(told), 4 ** n)
            for x, r in product(words, repeat=2):
                bit = sum(one * other for one, other in zip(x, r)) % 2
                self.assertEqual(told[number_of(x + r)], words[turn[number_of(x)]] + r + (bit,))

    def test_back_lists(self):
        source = random.Random(32)
        for turn in some_turns(32, 3):
            n = letters(turn)
            N, words = 2 ** n, all_words(n)
            for test in list(some_tests(source, 2 * n + 1, 4)) + [self.knowing(turn, source)]:
                for e in ((1, 2), (1, 4), (1, 3), (3, 4), (1, 999999999), (999999998, 999999999)):
                    wanted = []
                    for number, x in enumerate(words):
                        y = words[turn[number]]
                        row = (1, tuple(test[number_of(y + r + (0,))] - test[number_of(y + r + (1,))] for r in words))
                        if x in linear_list(row, e):
                            wanted.append(x)
                    told = back_list(turn, test, e)
                    self.assertEqual(told, tuple(sorted(wanted)))
                    amount = abs(Fraction(*map_excess(string_map(turn), test)))
                    self.assertGreaterEqual(len(told), (2 * amount - Fraction(*e)) / (1 - Fraction(*e)) * N)

    def knowing(self, turn, source):
        """A test that mostly meets the words of the string map, so that its excess is great."""
        n, met = letters(turn), set(string_map(turn))
        return tuple(int((word in met) != (source.random() < 0.1)) for word in all_words(2 * n + 1))

    def test_just_at_the_edge(self):
        # At y of 0 the guesses are 1 and 0: the sums are 1 and 1, just N / 2.
        test = (1, 0, 0, 0, 0, 0, 0, 0)
        self.assertEqual(back_list((0, 1), test, (1, 2)), ())
        self.assertEqual(back_list((0, 1), test, (499999999, 999999999)), ((0,),))
        self.assertEqual(back_list((1, 0), test, (499999999, 999999999)), ((1,),))

    def test_identical_turns_of_all_sizes(self):
        for l in range(1, 7):
            turn, truth = tuple(range(2 ** l)), (1,) * 2 ** l
            self.assertEqual(bit_map(turn, truth), tuple(word + (0,) for word in all_words(l)))
            self.assertEqual(guess_row((1,) * 2 ** (l + 1)), (1, (0,) * 2 ** l))

    def test_errors(self):
        turns = BAD_TURNS + (tuple(range(128)), (0,) * 64)
        truths = BAD_TRUTHS + ((1,), (1, 1, 1), (1,) * 4, (1, 0), (1, True), [1, 1])
        self.refuses(bit_map, [(1, 0), (1, -1)], [(InvalidMaps, turns), (InvalidTruth, truths)])
        tests = tuple(value for value in BAD_TESTS if value != (0, 1) * 4)
        self.refuses(guess_row, [EQUAL], [(InvalidWord, tests + ((0,) * 12, (0,) * 256, (0, 1) * 63, (0,) * 127 + (True,)))])
        self.refuses(string_map, [(1, 0)], [(InvalidMaps, turns + (tuple(range(16)),))])
        tests = tuple(value for value in BAD_TESTS if value != (0, 1) * 4) + (EQUAL, (0,) * 32, KNOWN[:7] + (True,))
        edges = BAD_FRACTIONS + ((0, 1), (1, 1), (-1, 2), (3, 2), (2, 1))
        bad = [(InvalidMaps, turns + (tuple(range(16)),)), (InvalidWord, tests), (InvalidFraction, edges)]
        self.refuses(back_list, [(0, 1), KNOWN, (1, 2)], bad)
        self.refuses(back_list, [(1, 0), KNOWN, (999999998, 999999999)], bad)


class NotTrue(Case):
    """[15.6]."""

    def test_steps_can_have_an_excess_where_the_whole_has_none(self):
        table, test = ((1, 1), (1, 0)), (1, 0, 0, 1, 1, 0, 1, 0)
        self.assertEqual(long_excess(table, 3, test), (0, 1))
        told = [map_excess(table, step_test(table, 3, test, (bit,))) for bit in (0, 1)]
        self.assertEqual(told, [(-1, 4), (1, 4)])

    def test_bit_maps_can_be_told(self):
        for turn in permutations(range(2)):
            table = bit_map(turn, (1, -1))
            test = tuple(int(word in table) for word in all_words(2))
            self.assertEqual(map_excess(table, test), (1, 2))


if __name__ == "__main__":
    unittest.main()
