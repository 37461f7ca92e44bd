"""[8.1] to [8.6], and the words, tables and draws of [0.7] and [0.9]."""

import random
import unittest
from fractions import Fraction
from itertools import combinations, product

from hardbits.errors import InvalidDraw, InvalidFraction, InvalidNumber, InvalidOperation, InvalidWord
from hardbits.words.draws import (advantage, best_bits, best_next, bias, biases, coupling_answer, distance, draw_of,
                                  even_draw, excess, hybrid, is_best_bits, is_coupling_answer, is_made_answer,
                                  made_answer, made_bits, steps, test_of as test_of_bits, word_number, words)
from tests.support import BAD_FRACTIONS, BAD_NUMBERS, BAD_ROWS, Case, DEEP, HUGE, LONG, is_least
from tests.test_fractions import pair

TWIN, FLAT = (2, (1, 0, 0, 1)), (4, (1, 1, 1, 1))
ALIKE = (1, 0, 0, 1)
BAD_M = BAD_NUMBERS + (0, 7)
BAD_DRAWS = BAD_ROWS + ((1, (1,)), (1, (1, 0)), (1, (1, 0, 0)), (1, (1, 0, 0, 0, 0)), (1, (1, 1, 0, 0)),
                        (2, (1, 0, 0, 0)),
                        (1, (2, -1, 0, 0)), (1, (0, 0, 0, 0)), (4, [1, 1, 1, 1]))
# Wrong tables of two bits, and wrong words of that length.
BAD_TABLES = (None, 1, True, (), (0,), (0, 1), (0, 1, 1), (0, 1, 1, 0, 1), [0, 1, 1, 0], (0, 1, 1, 2), (0, 1, 1, -1),
              (0, 1, 1, True), (False, 1, 1, 0), (0, 1, 1, None), (0, 1, 1, (0,)), "0110", DEEP, {}, HUGE,
              (0, 1, 1, HUGE))
BAD_BITS = (None, 1, True, (0, 1, 0), [0, 1], (0, 2), (0, True), (0, -1), (0, None), "01", DEEP, {}, HUGE)
SIDES = BAD_FRACTIONS + ((-1, 2), (3, 2), (2, 1), (999999999, 999999998))


def values(row):
    return [Fraction(number, row[0]) for number in row[1]]


def all_words(m):
    """All words of m bits, by their numbers."""
    return [tuple(number >> k & 1 for k in range(m)) for number in range(2 ** m)]


def number_of(word):
    return sum(bit * 2 ** k for k, bit in enumerate(word))


def chances(m, draw):
    """A dict from the words to their weights."""
    return dict(zip(all_words(m), values(draw)))


def excess_by_words(m, draw, test):
    weights = chances(m, draw)
    met = [word for word, bit in zip(all_words(m), test) if bit == 1]
    return sum(weights[word] for word in met) - Fraction(len(met), 2 ** m)


def advantage_by_words(m, draw, i, bits):
    """The chance that bit i is as the table tells, less 1 / 2."""
    told = [weight for word, weight in chances(m, draw).items() if bits[number_of(word[:i])] == word[i]]
    return sum(told) - Fraction(1, 2)


def best_by_words(m, draw, i):
    """A(i) by the words of [8.4]."""
    total = Fraction(0)
    for head in all_words(i):
        gap = 0
        for word, weight in chances(m, draw).items():
            if word[:i] == head:
                gap += weight if word[i] == 0 else -weight
        total += abs(gap)
    return total / 2


def some_draws(seed, m, count):
    source = random.Random(seed)
    for k in range(count):
        counts = [source.choice((0, 0, 1, 2, 5, source.randint(0, 999))) for _ in range(2 ** m)]
        counts[source.randrange(2 ** m)] += 1
        factor = (1, 1, 3, 10 ** 40)[k % 4]
        yield (sum(counts) * factor, tuple(number * factor for number in counts))


def some_tests(seed, m, count):
    source = random.Random(seed)
    yield (0,) * 2 ** m
    yield (1,) * 2 ** m
    for _ in range(count):
        yield tuple(source.randint(0, 1) for _ in range(2 ** m))


def some_cases(seed, most=4):
    for m in range(1, most + 1):
        for k, draw in enumerate(list(some_draws(seed + m, m, 8)) + [even_draw(m)]):
            for test in some_tests(seed * 100 + k, m, 4):
                yield m, draw, test


class Words(Case):

    def test_words(self):
        self.assertEqual(words(1), ((0,), (1,)))
        self.assertEqual(words(2), ((0, 0), (1, 0), (0, 1), (1, 1)))
        for m in range(1, 7):
            self.assertEqual(words(m), tuple(all_words(m)))
            for number, word in enumerate(words(m)):
                self.assertEqual(word_number(m, word), number)

    def test_errors(self):
        self.refuses(words, [2], [(InvalidNumber, BAD_M)])
        bad = BAD_BITS + ((), (0,), (0, 1, 1))
        self.refuses(word_number, [2, (0, 1)], [(InvalidNumber, BAD_M), (InvalidWord, bad)])


class Draws(Case):

    def test_draws(self):
        self.assertEqual(draw_of(2, (1, 0, 0, 1)), TWIN)
        self.assertEqual(draw_of(1, (6, 4)), (5, (3, 2)))
        self.assertEqual(draw_of(1, (0, 999999999)), (1, (0, 1)))
        self.assertEqual(draw_of(6, (999999999,) * 64), even_draw(6))
        for m in range(1, 7):
            self.assertEqual(even_draw(m), (2 ** m, (1,) * 2 ** m))
            for draw in some_draws(m, m, 4):
                counts = tuple(number // (10 ** 40 if draw[0] > 10 ** 40 else 1) for number in draw[1])
                told = draw_of(m, counts)
                self.assertEqual(values(told), values(draw))
                self.assertTrue(is_least(told))

    def test_errors(self):
        bad = (None, 1, True, (), (1, 0, 0), (1, 0, 0, 0, 0), [1, 0, 0, 1], (0, 0, 0, 0), (1, 0, 0, -1),
               (3, 0, -1, 0), (1, 0, 0, True),
               (1, 0, 0, None), (1, 0, 0, 10 ** 9), (1, 0, 0, HUGE), (1, 0, 0, (1,)), "1001", DEEP, {})
        self.refuses(draw_of, [2, (1, 0, 0, 1)], [(InvalidNumber, BAD_M), (InvalidDraw, bad)])
        self.refuses(even_draw, [6], [(InvalidNumber, BAD_M)])


class Hybrids(Case):

    def test_excess(self):
        for m, draw, test in some_cases(1):
            self.assertEqual(excess(m, draw, test), pair(excess_by_words(m, draw, test)))
        draw = next(some_draws(4, 6, 1))
        for test in some_tests(5, 6, 4):
            self.assertEqual(excess(6, draw, test), pair(excess_by_words(6, draw, test)))

    def test_hybrids(self):
        for m in range(1, 5):
            for draw in some_draws(10 + m, m, 6):
                weights = chances(m, draw)
                for number in range(m + 1):
                    told = hybrid(m, draw, number)
                    self.assertTrue(is_least(told))
                    for word, weight in chances(m, told).items():
                        head = sum(weights[other] for other in weights if other[:number] == word[:number])
                        self.assertEqual(weight, head / 2 ** (m - number))
                self.assertEqual(hybrid(m, draw, 0), even_draw(m))
                self.assertEqual(values(hybrid(m, draw, m)), values(draw))

    def test_steps(self):
        for m, draw, test in some_cases(2):
            told = steps(m, draw, test)
            parts = [excess_by_words(m, hybrid(m, draw, k), test) for k in range(m + 1)]
            self.assertEqual(told, tuple(pair(parts[i + 1] - parts[i]) for i in range(m)))
            self.assertEqual(sum(Fraction(*step) for step in told), excess_by_words(m, draw, test))

    def test_errors(self):
        m, draw, table = (InvalidNumber, BAD_M), (InvalidDraw, BAD_DRAWS), (InvalidWord, BAD_TABLES)
        self.refuses(excess, [2, TWIN, ALIKE], [m, draw, table])
        self.refuses(steps, [2, TWIN, ALIKE], [m, draw, table])
        self.refuses(hybrid, [2, TWIN, 2], [m, draw, (InvalidNumber, BAD_NUMBERS + (3,))])
        self.refuses(hybrid, [2, (2 * LONG, (LONG, 0, 0, LONG)), 0], [m, draw, (InvalidNumber, BAD_NUMBERS + (3,))])


class NextBits(Case):

    def test_advantages(self):
        for m in range(1, 4):
            for draw in list(some_draws(20 + m, m, 5)) + [even_draw(m)]:
                for i in range(m):
                    best = best_by_words(m, draw, i)
                    found = []
                    for bits in product((0, 1), repeat=2 ** i):
                        number = advantage_by_words(m, draw, i, bits)
                        self.assertEqual(advantage(m, draw, i, bits), pair(number))
                        self.assertIs(is_best_bits(m, draw, i, bits), number == best)
                        found.append(number)
                    self.assertEqual(max(found), best)
                    self.assertEqual(best_next(m, draw)[i], pair(best))
                    self.assertIn(best_bits(m, draw, i), list(product((0, 1), repeat=2 ** i)))
                    self.assertEqual(advantage_by_words(m, draw, i, best_bits(m, draw, i)), best)

    def test_many_bits(self):
        for draw in some_draws(26, 6, 3):
            self.assertEqual(best_next(6, draw), tuple(pair(best_by_words(6, draw, i)) for i in range(6)))
            for i in range(6):
                bits = best_bits(6, draw, i)
                self.assertEqual(len(bits), 2 ** i)
                self.assertEqual(advantage_by_words(6, draw, i, bits), best_by_words(6, draw, i))

    def test_three_numbers(self):
        for m in range(1, 5):
            for draw in list(some_draws(30 + m, m, 8)) + [even_draw(m)]:
                apart = Fraction(*distance(draw, even_draw(m)))
                best = [Fraction(*number) for number in best_next(m, draw)]
                self.assertTrue(max(best) <= apart <= sum(best))
                self.assertEqual(apart == 0, not any(best))

    def test_made_bits(self):
        for m in range(1, 5):
            for test in some_tests(m, m, 4):
                for i in range(m):
                    for last in all_words(m - i - 1):
                        for r in (0, 1):
                            told = made_bits(m, test, i, last, r)
                            wanted = [r if test[number_of(u + (r,) + last)] else 1 - r for u in all_words(i)]
                            self.assertEqual(told, tuple(wanted))

    def test_the_mean_of_made_predictors_is_the_step(self):
        for m, draw, test in some_cases(3, 3):
            for i, step in enumerate(steps(m, draw, test)):
                found = [advantage_by_words(m, draw, i, made_bits(m, test, i, last, r))
                         for last in all_words(m - i - 1) for r in (0, 1)]
                self.assertEqual(sum(found) / len(found), Fraction(*step))

    def is_made(self, m, draw, test, value):
        i, last, r = value
        found = advantage_by_words(m, draw, i, made_bits(m, test, i, last, r))
        return abs(found) * m >= abs(excess_by_words(m, draw, test))

    def test_made_answers(self):
        for m, draw, test in some_cases(4):
            answer = made_answer(m, draw, test)
            self.assertTrue(self.is_made(m, draw, test, answer))
            self.assertIs(is_made_answer(m, draw, test, answer), True)
        for m, draw, test in some_cases(5, 3):
            for i in range(m):
                for last in all_words(m - i - 1):
                    for r in (0, 1):
                        value = (i, last, r)
                        self.assertIs(is_made_answer(m, draw, test, value), self.is_made(m, draw, test, value))
        draw = next(some_draws(6, 6, 1))
        for test in some_tests(7, 6, 3):
            self.assertTrue(self.is_made(6, draw, test, made_answer(6, draw, test)))

    def test_tests_of_predictors(self):
        for m in range(1, 4):
            for i in range(m):
                for bits in product((0, 1), repeat=2 ** i):
                    test = test_of_bits(m, i, bits)
                    self.assertEqual(test, tuple(1 if bits[number_of(word[:i])] == word[i] else 0
                                                 for word in all_words(m)))
                    for draw in some_draws(40 + m, m, 3):
                        self.assertEqual(excess(m, draw, test), advantage(m, draw, i, bits))

    def test_near_values(self):
        self.judged(is_best_bits, (2, TWIN, 1), ((0, 1),), ((1, 0), (0, 0), (0,), (0, 1, 0), (0, 2), (0, -1),
                                                            (0, HUGE)))
        self.judged(is_best_bits, (2, TWIN, 0), ((0,), (1,)), ((0, 1), (2,)))
        right = ((1, (), 0), (1, (), 1))
        wrong = ((0, (0,), 0), (0, (0,), 1), (0, (), 0), (1, (0,), 0), (1, (), 2), (2, (), 0), (-1, (0, 0), 0), (1, ()),
                 (1, (), 0, 0), (HUGE, (), 0), (1, (), HUGE))
        self.judged(is_made_answer, (2, TWIN, ALIKE), right, wrong)

    def test_errors(self):
        m, draw, table = (InvalidNumber, BAD_M), (InvalidDraw, BAD_DRAWS), (InvalidWord, BAD_TABLES)
        i, bits = (InvalidNumber, BAD_NUMBERS + (2,)), (InvalidWord, BAD_BITS + ((), (0,), (0, 1, 0)))
        self.refuses(advantage, [2, TWIN, 1, (0, 1)], [m, draw, i, bits])
        self.refuses(advantage, [2, TWIN, 0, (0,)], [m, draw, i, (InvalidWord, BAD_BITS + ((), (0, 1)))])
        self.refuses(best_next, [2, TWIN], [m, draw])
        self.refuses(best_bits, [2, TWIN, 1], [m, draw, i])
        self.refuses(is_best_bits, [2, TWIN, 1, None], [m, draw, i, None])
        last, r = (InvalidWord, BAD_BITS + ((), (0, 1))), (InvalidNumber, BAD_NUMBERS + (2,))
        self.refuses(made_bits, [2, ALIKE, 0, (1,), 1], [m, table, i, last, r])
        self.refuses(made_bits, [2, ALIKE, 1, (), 0], [m, table, i, (InvalidWord, BAD_BITS + ((0,),)), r])
        self.refuses(made_answer, [2, TWIN, ALIKE], [m, draw, table])
        self.refuses(is_made_answer, [2, TWIN, ALIKE, None], [m, draw, table, None])
        self.refuses(test_of_bits, [2, 1, (0, 1)], [m, i, bits])


class Couplings(Case):

    def distance_by_words(self, one, other):
        return sum(abs(a - b) for a, b in zip(values(one), values(other))) / 2

    def is_right(self, one, other, s, value):
        """Whether the value is a coupling, or a lot of points, by the words of [8.1]."""
        kind, told = value
        if kind == "test":
            gap = sum(values(one)[x] - values(other)[x] for x in told)
            return list(told) == sorted(set(told)) and gap > Fraction(*s)
        bottom, weights = told
        firsts = [Fraction(0)] * len(one[1])
        seconds, unlike = list(firsts), Fraction(0)
        for (x, y), weight in weights.items():
            firsts[x] += Fraction(weight, bottom)
            seconds[y] += Fraction(weight, bottom)
            unlike += Fraction(weight, bottom) if x != y else 0
        return (bottom >= 1 and all(weight >= 1 for weight in weights.values()) and firsts == values(one)
                and seconds == values(other) and unlike <= Fraction(*s))

    def pairs_of_draws(self, seed):
        source = random.Random(seed)
        for points in (1, 2, 3, 5, 64):
            for factor in (1, 3, 10 ** 30):
                draws = []
                for _ in range(2):
                    counts = [source.choice((0, 1, 2, 3)) for _ in range(points)]
                    counts[source.randrange(points)] += 1
                    draws.append((sum(counts) * factor, tuple(number * factor for number in counts)))
                yield draws
                yield draws[0], draws[0]
        yield (1, (1, 0)), (1, (0, 1))
        yield (1, (0, 1, 0)), (2, (1, 0, 1))

    def test_distances(self):
        self.assertEqual(distance(TWIN, FLAT), (1, 2))
        self.assertEqual(distance((1, (1,)), (HUGE, (HUGE,))), (0, 1))
        self.assertEqual(distance((1, (1, 0)), (1, (0, 1))), (1, 1))
        for one, other in self.pairs_of_draws(1):
            self.assertEqual(distance(one, other), pair(self.distance_by_words(one, other)))
            self.assertEqual(distance(other, one), distance(one, other))

    def test_just_one_of_both(self):
        for one, other in self.pairs_of_draws(2):
            apart = self.distance_by_words(one, other)
            for bound in {Fraction(0), apart, apart / 2, (1 + apart) / 2, Fraction(1), apart * Fraction(999, 1000)}:
                s = pair(bound)
                answer = coupling_answer(one, other, s)
                self.assertEqual(answer[0], "coupling" if apart <= bound else "test")
                self.assertTrue(self.is_right(one, other, s, answer), (one, other, s, answer))
                self.assertIs(is_coupling_answer(one, other, s, answer), True)
                if answer[0] == "coupling":
                    self.assertEqual(list(answer[1][1]), sorted(answer[1][1]))

    def test_the_judge_takes_all_right_lots_and_no_others(self):
        for one, other in self.pairs_of_draws(3):
            points = len(one[1])
            if points < 64:
                apart = self.distance_by_words(one, other)
                for bound in {Fraction(0), apart, apart / 2}:
                    for size in range(points + 1):
                        for lot in combinations(range(points), size):
                            value = ("test", lot)
                            self.assertIs(is_coupling_answer(one, other, pair(bound), value),
                                          self.is_right(one, other, pair(bound), value))

    def test_the_judge_takes_all_right_couplings_and_no_others(self):
        one, other = (3, (2, 1)), (3, (1, 2))
        for s in ((0, 1), (1, 3), (1, 2), (1, 1)):
            for bottom in (1, 3, 6):
                for numbers in product(range(5), repeat=4):
                    pairs = zip(product(range(2), repeat=2), numbers)
                    value = ("coupling", (bottom, {place: number for place, number in pairs if number}))
                    self.assertIs(is_coupling_answer(one, other, s, value), self.is_right(one, other, s, value))

    def test_near_values(self):
        right = (("coupling", (4, {(0, 0): 1, (0, 1): 1, (3, 2): 1, (3, 3): 1})),
                 ("coupling", (4, {(3, 3): 1, (3, 1): 1, (0, 2): 1, (0, 0): 1})),
                 ("coupling", (4 * LONG, {(0, 0): LONG, (0, 1): LONG, (3, 2): LONG, (3, 3): LONG})))
        wrong = (("coupling", (4, {(0, 0): 1, (0, 1): 1, (3, 2): 1})), ("coupling", (4, {(0, 0): 2, (3, 3): 2})),
                 ("coupling", (4, {(0, 0): 1, (0, 1): 2, (3, 2): 1, (3, 3): 1})),
                 ("coupling", (4, {(0, 1): 1, (0, 2): 1, (3, 0): 1, (3, 3): 1})),
                 ("coupling", (4, {(0, 0): 1, (0, 1): 1, (3, 2): 1, (3, 3): 1, (1, 1): 0})),
                 ("coupling", (4, {(0, 0): 1, (0, 1): 1, (3, 2): 1, (3, 3): 1, (0, 3): -1})),
                 ("coupling", (4, {(0, 0): 1, (0, 1): 1, (3, 2): 1, (3, 3): 1, (4, 4): 1})),
                 ("coupling", (4, {(0, 0): 1, (0, 1): 1, (3, 2): 1, (3, -1): 1})),
                 ("coupling", (2, {(0, 0): 1, (0, 1): 1, (3, 2): 1, (3, 3): 1})),
                 ("coupling", (4, {(0, 0): 1, (0, 1): 1, (-1, 2): 1, (3, 3): 1})),
                 ("coupling", (4, {(0, 0): 1, (0, 1): 1, (3, 2): 1, (4, 3): 1})),
                 ("coupling", (4, {(0, 0): 1, (0, 1): 1, (3, 2): 1, (3, 4): 1})),
                 ("coupling", (4, {(0, 0): 1, (0, 1): 1, (3, 2): 1, (HUGE, 3): 1})),
                 ("coupling", (0, {})), ("coupling", (4, {})), ("coupling", (4,)), ("test", (0,)), ("test", (0, 3)),
                 ("coupling", (-4, {(0, 0): -1, (0, 1): -1, (3, 2): -1, (3, 3): -1})))
        self.judged(is_coupling_answer, (TWIN, FLAT, (1, 2)), right, wrong)
        right = (("test", (0, 3)),)
        wrong = (("test", (3, 0)), ("test", (0,)), ("test", (0, 0, 3)), ("test", (0, 3, 4)), ("test", (-1, 0)),
                 ("test", ()),
                 ("test", (0, 3), 0), ("test", (0, 3, HUGE)), ("coupling",
                                                               (4, {(0, 0): 1, (0, 1): 1, (3, 2): 1, (3, 3): 1})))
        self.judged(is_coupling_answer, (TWIN, FLAT, (1, 4)), right, wrong)
        # The lot has a weight that is more than s above: exactly s is not enough.
        self.judged(is_coupling_answer, ((1, (1, 0)), (2, (1, 1)), (1, 2)),
                    (("coupling", (2, {(0, 0): 1, (0, 1): 1})),),
                    (("test", (0,)),))
        self.judged(is_coupling_answer, ((1, (1,)), (1, (1,)), (0, 1)), (("coupling", (LONG, {(0, 0): LONG})),))

    def test_judging_leaves_the_value_as_it_is(self):
        weights = {(3, 3): 1, (0, 1): 1, (3, 2): 1, (0, 0): 1}
        value = ("coupling", (4, weights))
        self.assertIs(is_coupling_answer(TWIN, FLAT, (1, 2), value), True)
        self.assertEqual(list(weights.items()), [((3, 3), 1), ((0, 1), 1), ((3, 2), 1), ((0, 0), 1)])

    def test_errors(self):
        bad = BAD_ROWS + ((1, (1, 1)), (2, (1, 0)), (1, (2, -1)), (1, (0, 0)), (65, (1,) * 65))
        draw, unlike = (InvalidDraw, bad), [((TWIN, (1, (1,))), InvalidOperation, None)]
        self.refuses(distance, [TWIN, FLAT], [draw, draw], unlike)
        self.refuses(distance, [(64, (1,) * 64), (1, (1,) + (0,) * 63)], [draw, draw])
        side, unlike = (InvalidFraction, SIDES), [((TWIN, (1, (1,)), (1, 2)), InvalidOperation, None)]
        self.refuses(coupling_answer, [TWIN, FLAT, (0, 1)], [draw, draw, side], unlike)
        self.refuses(coupling_answer, [TWIN, FLAT, (1, 1)], [draw, draw, side], unlike)
        unlike = [((TWIN, (1, (1,)), (1, 2), None), InvalidOperation, None)]
        self.refuses(is_coupling_answer, [TWIN, FLAT, (1, 2), None], [draw, draw, side, None], unlike)


class Biases(Case):

    def bias_by_words(self, m, draw, lot):
        return sum(weight * (-1) ** sum(word[place] for place in lot) for word, weight in chances(m, draw).items())

    def test_biases(self):
        for m in range(1, 5):
            lots = [lot for size in range(m + 1) for lot in combinations(range(m), size)]
            for draw in list(some_draws(50 + m, m, 5)) + [even_draw(m)]:
                told = biases(m, draw)
                self.assertEqual(told, {lot: pair(self.bias_by_words(m, draw, lot)) for lot in lots})
                self.assertEqual(list(told), sorted(lots))
                for lot in lots:
                    self.assertEqual(bias(m, draw, lot), told[lot])
                squares = sum(Fraction(*told[lot]) ** 2 for lot in lots if lot)
                apart = Fraction(*distance(draw, even_draw(m)))
                self.assertLessEqual((2 * apart) ** 2, squares)
                self.assertEqual(apart == 0, squares == 0)

    def test_many_bits(self):
        draw = next(some_draws(56, 6, 1))
        told = biases(6, draw)
        self.assertEqual((len(told), told[()]), (64, (1, 1)))
        for lot in ((0,), (5,), (0, 5), (1, 2, 3), (0, 1, 2, 3, 4, 5)):
            self.assertEqual(bias(6, draw, lot), pair(self.bias_by_words(6, draw, lot)))

    def test_errors(self):
        m, draw = (InvalidNumber, BAD_M), (InvalidDraw, BAD_DRAWS)
        bad = (None, 1, True, [0], (0, 0), (1, 0), (2,), (-1,), (0, 2), (True,), (0, True), (None,), ((0,),), HUGE,
               (HUGE,),
               "0", DEEP, {})
        self.refuses(bias, [2, TWIN, (0, 1)], [m, draw, (InvalidWord, bad)])
        self.refuses(bias, [2, TWIN, ()], [m, draw, (InvalidWord, bad)])
        self.refuses(biases, [2, TWIN], [m, draw])


class NotTrue(Case):
    """[8.6]."""

    def test_best_advantages_can_be_alike(self):
        self.assertEqual(best_next(2, draw_of(2, (1, 0, 0, 0))), ((1, 2), (1, 2)))

    def test_tests_need_not_make_best_predictors(self):
        test, draw = (0, 0, 0, 0), TWIN
        for i in range(2):
            for last in all_words(1 - i):
                for r in (0, 1):
                    made = made_bits(2, test, i, last, r)
                    self.assertIs(is_best_bits(2, draw, i, made), i == 0)

    def test_exchanged_places_need_not_exchange_advantages(self):
        self.assertEqual(best_next(2, draw_of(2, (2, 1, 0, 1))), ((0, 1), (1, 4)))
        self.assertEqual(best_next(2, draw_of(2, (2, 0, 1, 1))), ((1, 4), (1, 4)))


if __name__ == "__main__":
    unittest.main()
