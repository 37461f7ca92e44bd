"""[1.1] to [1.4], and the fractions and rows of [0.6] and [0.7]."""

import random
import unittest
from fractions import Fraction
from itertools import combinations, permutations

from hardbits.base.fractions import (added, ceiling_of, compared, divided, entries, floor_of, fraction, greatest_sum,
                                     is_fraction, is_least_weights, is_level_answer, is_row, least_sum, least_weights,
                                     less, level_answer, level_shows, lowest, power, row_added, row_dot, row_of,
                                     row_sum, scaled, times)
from hardbits.errors import InvalidFraction, InvalidNumber, InvalidOperation, InvalidRow
from tests.support import BAD_FRACTIONS, BAD_ROWS, Case, DEEP, HUGE, JUNK, LONG, is_least

BAD_SHORT = (None, True, False, "1", (1,), [1], {}, 10 ** 9, -10 ** 9, HUGE, -HUGE)
ROWS_TOO_LONG = BAD_ROWS + ((1, (0,) * 33),)
SAMPLE = [(0, 1), (1, 1), (-1, 1), (1, 2), (-3, 2), (5, 3), (999999999, 1), (-1, 999999999), (999999998, 999999999)]


def pair(number):
    """A number as the document's fraction."""
    number = Fraction(number)
    return (number.numerator, number.denominator)


def values(row):
    return [Fraction(number, row[0]) for number in row[1]]


def corner_sums(row, s):
    """The sums of products of all weights of s of which at most one is neither 0 nor 1."""
    numbers, whole = values(row), s[0] // s[1]
    rest = Fraction(*s) - whole
    for lot in combinations(range(len(numbers)), whole):
        base = sum(numbers[k] for k in lot)
        if rest == 0:
            yield base
        for k in range(len(numbers)):
            if rest > 0 and k not in lot:
                yield base + rest * numbers[k]


def some_rows(seed, count, most=5):
    source = random.Random(seed)
    for _ in range(count):
        size = source.randint(1, most)
        yield (source.choice((1, 2, 3, 12)), tuple(source.randint(-4, 4) for _ in range(size)))


def some_sizes(row):
    return [pair(Fraction(k, 3)) for k in range(3 * len(row[1]) + 1)]


def is_weights(row, s, value):
    """Whether the value is weights of s for the row, by the words of [1.1]."""
    weights = values(value)
    return (len(weights) == len(row[1]) and value[0] >= 1 and all(0 <= weight <= 1 for weight in weights)
            and sum(weights) == Fraction(*s))


def product_sum(row, value):
    return sum(one * other for one, other in zip(values(row), values(value)))


class Fractions(Case):

    def test_is_fraction(self):
        right = ((0, 1), (1, 1), (-1, 1), (7, 2), (-7, 2), (HUGE, 1), (1, HUGE), (-HUGE, HUGE - 1), (LONG, LONG + 1))
        for value in right:
            self.assertIs(is_fraction(value), True, value)
        for value in JUNK + ((1, 0), (0, 2), (2, 4), (1, -1), (HUGE, HUGE), [1, 2], (1, 2, 3), (True, 1), (1, True)):
            self.assertIs(is_fraction(value), False, value)

    def test_fraction(self):
        for top in (-12, -7, -1, 0, 1, 6, 12, 999999999, -999999999):
            for bottom in (-9, -4, -1, 1, 4, 6, 999999999, -999999999):
                self.assertEqual(fraction(top, bottom), pair(Fraction(top, bottom)))
        wrong = [(InvalidNumber, BAD_SHORT), (InvalidNumber, BAD_SHORT)]
        self.refuses(fraction, [6, -4], wrong, [((6, 0), InvalidOperation, None), ((0, 0), InvalidOperation, None)])

    def test_sums_differences_products(self):
        for one in SAMPLE:
            for other in SAMPLE:
                left, right = Fraction(*one), Fraction(*other)
                self.assertEqual(added(one, other), pair(left + right))
                self.assertEqual(less(one, other), pair(left - right))
                self.assertEqual(times(one, other), pair(left * right))
                self.assertEqual(compared(one, other), (left > right) - (left < right))
                if other[0]:
                    self.assertEqual(divided(one, other), pair(left / right))

    def test_results_can_be_longer_than_what_is_passed(self):
        self.assertEqual(times((999999999, 1), (999999999, 1)), (999999999 ** 2, 1))
        self.fails(InvalidFraction, times, (999999999 ** 2, 1), (1, 1))

    def test_power(self):
        for one in SAMPLE:
            for k in (0, 1, 2, 3, 40):
                self.assertEqual(power(one, k), pair(Fraction(*one) ** k))
        self.assertEqual(power((0, 1), 0), (1, 1))
        self.assertEqual(power((0, 1), 40), (0, 1))

    def test_floor_and_ceiling(self):
        for number in SAMPLE + [(-7, 2), (7, 2), (-1, 3), (-2, 1)]:
            floor, ceiling, value = floor_of(number), ceiling_of(number), Fraction(*number)
            self.assertTrue(floor <= value < floor + 1)
            self.assertTrue(ceiling - 1 < value <= ceiling)

    def test_errors_of_fractions(self):
        bad = (InvalidFraction, BAD_FRACTIONS)
        for call in (added, less, times, compared):
            self.refuses(call, [(1, 2), (3, 4)], [bad, bad])
        self.refuses(divided, [(1, 2), (3, 4)], [bad, bad], [(((1, 2), (0, 1)), InvalidOperation, None)])
        self.refuses(power, [(1, 2), 3], [bad, (InvalidNumber, (None, True, -1, 41, "2", (2,), HUGE, -HUGE))])
        for call in (floor_of, ceiling_of):
            self.refuses(call, [(1, 2)], [bad])


class Rows(Case):

    def test_is_row(self):
        right = ((1, (0,)), (2, (2, 4)), (5, (0, 0)), (HUGE, (LONG, -LONG)), (1, (-1,) * 32))
        for value in right:
            self.assertIs(is_row(value), True, value)
        for value in JUNK + ROWS_TOO_LONG:
            self.assertIs(is_row(value), False, value)

    def test_row_of_and_entries(self):
        for row in some_rows(1, 60):
            told = entries(row)
            self.assertEqual(told, tuple(pair(number) for number in values(row)))
            self.assertEqual(row_of(told), lowest(row))
        self.assertEqual(row_of(((0, 1),)), (1, (0,)))
        self.assertEqual(row_of(((1, 4), (-1, 6), (3, 1))), (12, (3, -2, 36)))
        self.assertEqual(row_of(((1, 3),) * 32), (3, (1,) * 32))

    def test_row_of_refuses(self):
        bad = (None, (), [(1, 2)], (1, 2), ((1, 2), (2, 4)), ((1, 2), None), ((1, 2), (True, 2)), ((0, 1),) * 33,
               ((10 ** 9, 1),), ((1, 2), (1, 10 ** 9)), DEEP, {}, "rows")
        self.refuses(row_of, [((1, 2), (1, 3))], [(InvalidRow, bad)])

    def test_lowest(self):
        for row in some_rows(2, 60):
            for factor in (1, 2, 30, HUGE):
                told = lowest((row[0] * factor, tuple(number * factor for number in row[1])))
                self.assertEqual(values(told), values(row))
                self.assertTrue(is_least(told), told)
        self.assertEqual(lowest((LONG, (0, 0))), (1, (0, 0)))

    def test_sums_of_rows(self):
        for one in some_rows(3, 40):
            self.assertEqual(row_sum(one), pair(sum(values(one))))
            other = (5, tuple(number * 2 - 1 for number in reversed(one[1])))
            self.assertEqual(row_dot(one, other), pair(product_sum(one, other)))
            total = row_added(one, other)
            self.assertEqual(values(total), [left + right for left, right in zip(values(one), values(other))])
            self.assertTrue(is_least(total))
            for number in ((0, 1), (1, 1), (-3, 2), (999999999, 2)):
                more = scaled(one, number)
                self.assertEqual(values(more), [value * Fraction(*number) for value in values(one)])
                self.assertTrue(is_least(more))
                self.assertGreaterEqual(more[0], 1)

    def test_integers_of_any_length(self):
        row = (2 * HUGE, (HUGE, 3 * HUGE))
        self.assertEqual(entries(row), ((1, 2), (3, 2)))
        self.assertEqual(lowest(row), (2, (1, 3)))
        self.assertEqual(row_sum(row), (2, 1))
        self.assertEqual(row_dot(row, (1, (LONG, 1))), pair(Fraction(LONG + 3, 2)))
        self.assertEqual(row_added(row, row), (1, (1, 3)))
        self.assertEqual(scaled(row, (2, 3)), (3, (1, 3)))
        self.assertEqual(least_sum(row, (1, 1)), (1, 2))
        self.assertEqual(greatest_sum(row, (1, 1)), (3, 2))
        self.assertEqual(level_shows(row, (1, 1), (1, 1)), (1, 2))

    def test_errors_of_rows(self):
        bad = (InvalidRow, ROWS_TOO_LONG)
        for call in (entries, lowest, row_sum):
            self.refuses(call, [(1, (1, 2))], [bad])
        for call in (row_dot, row_added):
            unlike = [(((1, (1, 2)), (1, (1,))), InvalidOperation, None)]
            self.refuses(call, [(1, (1, 2)), (2, (3, 4))], [bad, bad], unlike)
        self.refuses(scaled, [(1, (1, 2)), (1, 2)], [bad, (InvalidFraction, BAD_FRACTIONS)])


class LeastSums(Case):

    def test_least_and_greatest(self):
        for row in some_rows(4, 60):
            for s in some_sizes(row):
                found = list(corner_sums(row, s))
                self.assertEqual(least_sum(row, s), pair(min(found)), (row, s))
                self.assertEqual(greatest_sum(row, s), pair(max(found)), (row, s))

    def test_nothing_and_all(self):
        for row in some_rows(5, 20):
            self.assertEqual(least_sum(row, (0, 1)), (0, 1))
            self.assertEqual(greatest_sum(row, (0, 1)), (0, 1))
            self.assertEqual(least_sum(row, (len(row[1]), 1)), row_sum(row))
            self.assertEqual(greatest_sum(row, (len(row[1]), 1)), row_sum(row))
        wide = (1, tuple(range(32, 0, -1)))
        self.assertEqual(least_sum(wide, (63, 2)), pair(Fraction(31 * 32, 2) + 16))

    def test_both_add_up_to_the_sum(self):
        for row in some_rows(6, 40):
            for s in some_sizes(row):
                rest = pair(len(row[1]) - Fraction(*s))
                self.assertEqual(added(least_sum(row, s), greatest_sum(row, rest)), row_sum(row))

    def test_least_weights(self):
        for row in some_rows(7, 60):
            for s in some_sizes(row):
                weights = least_weights(row, s)
                self.assertTrue(is_weights(row, s, weights), (row, s, weights))
                self.assertEqual(pair(product_sum(row, weights)), least_sum(row, s))
                self.assertIs(is_least_weights(row, s, weights), True)

    def test_judge_of_least_weights(self):
        row = (2, (3, -1, 4, -1))
        right = ((1, (0, 1, 0, 0)), (1, (0, 0, 0, 1)), (2, (0, 1, 0, 1)), (6, (0, 2, 0, 4)),
                 (LONG, (0, LONG - 1, 0, 1)))
        wrong = ((1, (1, 0, 0, 0)), (2, (0, 1, 0, 0)), (2, (0, 2, 0, 1)), (2, (0, 3, 0, -1)), (2, (1, 1, 0, 0)),
                 (1, (0, 1, 0)), (1, (0, 1, 0, 0, 0)), (0, (0, 0, 0, 0)), (-1, (0, -1, 0, 0)),
                 (LONG, (1, LONG - 1, 0, 0)))
        self.judged(is_least_weights, (row, (1, 1)), right, wrong)
        self.judged(is_least_weights, (row, (0, 1)), ((1, (0, 0, 0, 0)), (9, (0, 0, 0, 0))), ((1, (0, 1, 0, 0)),))
        self.judged(is_least_weights, (row, (4, 1)), ((1, (1, 1, 1, 1)), (9, (9, 9, 9, 9))), ((1, (1, 1, 1, 2)),))
        # A weight is at most 1, also where the sum of products would be less with more.
        self.judged(is_least_weights, (row, (5, 2)), ((2, (1, 2, 0, 2)),), ((2, (0, 5, 0, 0)), (2, (0, 3, 0, 2))))

    def test_levels_show(self):
        for row in some_rows(8, 40):
            for s in some_sizes(row):
                shown = []
                for z in {*values(row), Fraction(0), Fraction(1, 5), Fraction(-9), Fraction(9)}:
                    by_words = z * Fraction(*s) - sum(z - value for value in values(row) if value < z)
                    self.assertEqual(level_shows(row, s, pair(z)), pair(by_words))
                    self.assertLessEqual(by_words, Fraction(*least_sum(row, s)))
                    shown.append(by_words)
                best = max(Fraction(*level_shows(row, s, pair(value))) for value in values(row))
                self.assertEqual(best, Fraction(*least_sum(row, s)))

    def test_just_one_of_both(self):
        for row in some_rows(9, 40):
            for s in some_sizes(row):
                least = Fraction(*least_sum(row, s))
                for v in (least - 1, least - Fraction(1, 60), least, least + Fraction(1, 60), least + 2):
                    self.check_level_answer(row, s, pair(v), least)

    def check_level_answer(self, row, s, v, least):
        kind, told = answer = level_answer(row, s, v)
        self.assertIs(is_level_answer(row, s, v, answer), True)
        bound = Fraction(*v)
        if least < bound:
            self.assertEqual(kind, "weights")
            self.assertTrue(is_weights(row, s, told))
            self.assertLess(product_sum(row, told), bound)
        else:
            self.assertEqual(kind, "level")
            self.assertTrue(is_fraction(told))
            self.assertGreaterEqual(Fraction(*level_shows(row, s, told)), bound)
        # No answer of the other kind is taken.
        for value in values(row):
            self.assertIs(is_level_answer(row, s, v, ("level", pair(value))) and least < bound, False)
        self.assertIs(is_level_answer(row, s, v, ("weights", least_weights(row, s))), least < bound)

    def test_judge_of_level_answers(self):
        row, s = (2, (3, -1, 4, -1)), (5, 2)
        right = (("level", (3, 2)), ("level", (5, 4)), ("level", (1, 1)))
        wrong = (("level", (0, 1)), ("level", (6, 4)), ("level", (5, 2)), ("weights", (2, (1, 2, 0, 2))),
                 ("level", (3, 2), 0), ("level", (3, -2)))
        self.judged(is_level_answer, (row, s, (-3, 4)), right[:1] + (("level", (1, 1)), ("level", (HUGE, HUGE + 1))),
                    (("level", (-1, 1)), ("weights", (2, (1, 2, 0, 2)))))
        self.judged(is_level_answer, (row, s, (-1, 4)), (("level", (3, 2)),), wrong)
        right = (("weights", (2, (1, 2, 0, 2))), ("weights", (2, (2, 2, 0, 1))),
                 ("weights", (LONG * 2, (LONG, LONG * 2, 0, LONG * 2))))
        wrong = (("weights", (2, (0, 0, 4, 1))), ("weights", (2, (1, 2, 0, 1))), ("weights", (2, (1, 1, 2, 1))),
                 ("weights", (1, (1, 1, 0, 1))), ("level", (3, 2)), ("level", (0, 1)), ("weights", (2, (2, 0, 1, 2))))
        self.judged(is_level_answer, (row, s, (3, 2)), right, wrong)

    def test_errors(self):
        row, bad = (2, (3, -1, 4, -1)), (InvalidRow, ROWS_TOO_LONG)
        size = (InvalidFraction, BAD_FRACTIONS + ((-1, 1), (9, 2), (-1, 999999999)))
        number = (InvalidFraction, BAD_FRACTIONS)
        for call in (least_sum, greatest_sum, least_weights):
            self.refuses(call, [row, (1, 2)], [bad, size])
        self.refuses(is_least_weights, [row, (1, 2), None], [bad, size, None])
        self.refuses(level_shows, [row, (1, 2), (-5, 1)], [bad, size, number])
        self.refuses(level_answer, [row, (1, 2), (-5, 1)], [bad, size, number])
        self.refuses(is_level_answer, [row, (1, 2), (-5, 1), None], [bad, size, number, None])


class HowLGoes(Case):
    """[1.3] and [1.4]."""

    def test_a_number_added(self):
        for row in some_rows(10, 30):
            for s in some_sizes(row):
                for z in (Fraction(-7, 2), Fraction(0), Fraction(5, 3)):
                    more = row_added(row, row_of((pair(z),) * len(row[1])))
                    wanted = Fraction(*least_sum(row, s)) + z * Fraction(*s)
                    self.assertEqual(least_sum(more, s), pair(wanted))

    def test_two_rows_added(self):
        for row in some_rows(11, 20, 4):
            for numbers in permutations(row[1]):
                other = (3, numbers)
                for s in some_sizes(row):
                    both = Fraction(*least_sum(row, s)) + Fraction(*least_sum(other, s))
                    self.assertGreaterEqual(Fraction(*least_sum(row_added(row, other), s)), both)

    def test_means_and_quotients(self):
        for row in some_rows(12, 30):
            sizes = some_sizes(row)
            least = [Fraction(*least_sum(row, s)) for s in sizes]
            for k in range(len(sizes) - 2):
                self.assertLessEqual(least[k + 1], (least[k] + least[k + 2]) / 2)
            means = [number / Fraction(*s) for number, s in zip(least, sizes) if s[0]]
            self.assertEqual(means, sorted(means))

    def test_what_is_not_true(self):
        flat = (1, (0, 1))
        self.assertEqual([level_shows(flat, (1, 1), z) for z in ((0, 1), (1, 2), (1, 1))],
                         [least_sum(flat, (1, 1))] * 3)
        self.assertIs(is_least_weights((1, (1, 1)), (1, 1), (2, (1, 1))), True)
        self.assertEqual([least_sum((1, (-1, 2)), s) for s in ((0, 1), (1, 1), (2, 1))], [(0, 1), (-1, 1), (1, 1)])
        self.assertEqual(least_sum((1, (-1, -1)), (2, 1)), (-2, 1))


if __name__ == "__main__":
    unittest.main()
