"""[7.1] to [7.5], and the linear truths of [0.10]. What is told is worked out here by the words of the document."""

import random
import unittest
from fractions import Fraction
from itertools import product

from hardbits.errors import InvalidFraction, InvalidRow, InvalidTruth, InvalidWord
from hardbits.linear.linear import (begin_weight, begins, linear_list, linear_sum, linear_sums, linear_truth,
                                    nearest_linear, sign_row)
from hardbits.points.truths import linear_family
from tests.support import BAD_FRACTIONS, BAD_ROWS, Case, DEEP, HUGE, LONG
from tests.test_draws import all_words, values
from tests.test_fractions import pair
from tests.test_truths import BAD_TRUTHS

SHARES = BAD_FRACTIONS + ((0, 1), (-1, 2), (3, 2), (2, 1))
# Wrong rows, also with a value that is not from -1 to 1.
BAD_LINEAR_ROWS = BAD_ROWS + ((1, (1,)), (1, (1, 1, 1)), (1, (1,) * 5), (1, (1,) * 31), (1, (1,) * 33), (1, (1,) * 64),
                              (1, (2, 0)), (1, (0, -2)), (3, (1, 2, 3, 4)), (3, (-4, 0, 0, 0)), (LONG, (0, LONG + 1)),
                              (1, [1, 1]), (1, (1, True)), DEEP)
# Wrong words of two bits.
BAD_STRINGS = (None, 1, True, (), (0,), (0, 1, 0), [0, 1], (0, 2), (0, True), (0, -1), (0, None), ((0,), 1), "01", DEEP,
               {}, HUGE, (0, HUGE))
EDGES = [(1, 1), (1, 2), (1, 3), (2, 3), (1, 4), (3, 4), (1, 999999999), (999999998, 999999999)]


def dot(x, a):
    return sum(one * other for one, other in zip(x, a))


def sign(x, a):
    return -1 if dot(x, a) % 2 else 1


def letters(row):
    return len(row[1]).bit_length() - 1


def sum_by_words(row, a):
    return sum(value * sign(x, a) for x, value in zip(all_words(len(a)), values(row)))


def sums_by_words(row):
    return {a: sum_by_words(row, a) for a in all_words(letters(row))}


def weights_of_begins(row, length):
    found = {}
    for a, number in sums_by_words(row).items():
        found[a[:length]] = found.get(a[:length], 0) + number * number
    return found


def some_rows(seed, count=6):
    source = random.Random(seed)
    for n in range(1, 6):
        size = 2 ** n
        yield 1, (1,) * size
        yield 1, (0,) * size
        yield 1, (-1,) + (0,) * (size - 1)
        yield 1, tuple(sign(x, (1,) * n) for x in all_words(n))
        for k in range(count):
            bottom = (1, 2, 5, 12, LONG, 10 ** 50)[k % 6]
            most = min(bottom, 12)
            numbers = tuple(source.choice((-most, most, source.randint(-most, most))) for _ in range(size))
            yield (bottom, numbers) if bottom < LONG else (bottom, tuple(number * (bottom // most) for number in numbers))
        yield 1, tuple(source.choice((1, -1)) for _ in range(size))


class Truths(Case):

    def test_linear_truths(self):
        for n in range(1, 6):
            told = {a: linear_truth(a) for a in all_words(n)}
            for a, truth in told.items():
                self.assertEqual(truth, tuple(sign(x, a) for x in all_words(n)))
            for a, b in product(told, repeat=2):
                alike = sum(one == other for one, other in zip(told[a], told[b]))
                self.assertEqual(alike, 2 ** n if a == b else 2 ** (n - 1))
            self.assertEqual(tuple(sorted(told.values())), linear_family(n))

    def test_sign_rows(self):
        for n in range(1, 6):
            truth = tuple(1 if k % 3 else -1 for k in range(2 ** n))
            self.assertEqual(sign_row(truth), (1, truth))

    def test_errors(self):
        bad = tuple(value for value in BAD_TRUTHS if value != (1,) * 33)
        bad += ((1,), (-1,), (1, 1, 1), (1,) * 5, (1,) * 31, (1,) * 33, (1,) * 64, [1, 1], (1, True), (1, 0))
        self.refuses(sign_row, [(1, -1)], [(InvalidTruth, bad)])
        bad = (None, 1, True, (), [0, 1], (0,) * 6, (0,) * 32, (2,), (0, True), (0, -1), (0, None), ((0,),), "01", DEEP, {},
               HUGE, (HUGE,))
        self.refuses(linear_truth, [(1, 0)], [(InvalidWord, bad)])


class Sums(Case):

    def test_sums(self):
        for row in some_rows(1):
            wanted = sums_by_words(row)
            self.assertEqual(linear_sums(row), tuple(pair(wanted[a]) for a in all_words(letters(row))))
            for a, number in wanted.items():
                self.assertEqual(linear_sum(row, a), pair(number))

    def test_squares(self):
        for row in some_rows(2):
            size = len(row[1])
            told = sum(Fraction(*number) ** 2 for number in linear_sums(row))
            self.assertEqual(told, size * sum(value * value for value in values(row)))
            self.assertLessEqual(told, size * size)

    def test_errors(self):
        row = (InvalidRow, BAD_LINEAR_ROWS)
        self.refuses(linear_sums, [(2, (2, -2, 0, 1))], [row])
        self.refuses(linear_sum, [(2, (2, -2, 0, 1)), (0, 1)], [row, (InvalidWord, BAD_STRINGS)])
        self.refuses(linear_sum, [(1, (1,) * 32), (1,) * 5], [row, (InvalidWord, BAD_STRINGS + ((0, 1),))])


def edges_of(row):
    """Edges that a sum is just at, and others."""
    size = len(row[1])
    found = {abs(number) / size for number in sums_by_words(row).values()}
    return EDGES + [pair(e) for e in sorted(found) if 0 < e <= 1 and e.denominator < 10 ** 9][:4]


class Lists(Case):

    def test_lists(self):
        for row in some_rows(3):
            size, wanted = len(row[1]), sums_by_words(row)
            for e in edges_of(row):
                told = linear_list(row, e)
                self.assertEqual(told, tuple(sorted(a for a in wanted if abs(wanted[a]) > Fraction(*e) * size)))
                self.assertLess(len(told), 1 / Fraction(*e) ** 2)
            self.assertEqual(linear_list(row, (1, 1)), ())

    def test_just_at_the_edge(self):
        row = sign_row((1, 1, 1, -1))
        self.assertEqual(linear_list(row, (1, 2)), ())
        self.assertEqual(len(linear_list(row, (499999999, 999999999))), 4)
        self.assertEqual(linear_list(sign_row((1, -1)), (999999998, 999999999)), ((1,),))

    def test_near_truths(self):
        # More than 3 N / 4 points with one linear truth: fewer with each other one.
        source = random.Random(4)
        for n in (3, 4, 5):
            for _ in range(20):
                a = tuple(source.randint(0, 1) for _ in range(n))
                truth = list(linear_truth(a))
                for point in source.sample(range(2 ** n), 2 ** n // 4 - 1):
                    truth[point] = -truth[point]
                self.assertEqual(linear_list(sign_row(tuple(truth)), (1, 2)), (a,))
                self.assertEqual(nearest_linear(sign_row(tuple(truth)))[0], a)

    def test_nearest(self):
        for row in some_rows(5):
            wanted = sums_by_words(row)
            most = max(abs(number) for number in wanted.values())
            first = min(a for a in wanted if abs(wanted[a]) == most)
            self.assertEqual(nearest_linear(row), (first, pair(wanted[first])))
        self.assertEqual(nearest_linear((1, (0, 0, 0, 0))), ((0, 0), (0, 1)))
        self.assertEqual(nearest_linear(sign_row((1, 1, 1, -1))), ((0, 0), (2, 1)))
        self.assertEqual(nearest_linear(sign_row((-1, 1, -1, 1))), ((1, 0), (-4, 1)))
        # (0, 1) is ahead of (1, 0) in Python's order, though its number is greater.
        self.assertEqual(nearest_linear((2, (0, 1, -1, 0))), ((0, 1), (1, 1)))

    def test_errors(self):
        bad = [(InvalidRow, BAD_LINEAR_ROWS), (InvalidFraction, SHARES)]
        for call in (linear_list, begins):
            self.refuses(call, [(2, (2, -2, 0, 1)), (1, 2)], bad)
            self.refuses(call, [(LONG, (LONG, -LONG)), (1, 1)], bad)
            self.refuses(call, [(1, (1,) * 32), (1, 999999999)], bad)
        self.refuses(nearest_linear, [(2, (2, -2))], bad[:1])


class Begins(Case):

    def test_weights(self):
        for row in some_rows(6, 3):
            n = letters(row)
            for length in range(n + 1):
                for begin, weight in weights_of_begins(row, length).items():
                    self.assertEqual(begin_weight(row, begin), pair(weight))

    def test_weights_by_pairs_of_points(self):
        for row in some_rows(7, 3):
            n = letters(row)
            if n <= 3:
                points = list(zip(all_words(n), values(row)))
                for length in range(n + 1):
                    for begin in all_words(length):
                        total = sum(one * other * sign(x[:length], begin) * sign(y[:length], begin)
                                    for x, one in points for y, other in points if x[length:] == y[length:])
                        self.assertEqual(begin_weight(row, begin), pair(2 ** (n - length) * total))

    def test_begins(self):
        for row in some_rows(8, 3):
            n, size = letters(row), len(row[1])
            for e in edges_of(row):
                told = begins(row, e)
                self.assertEqual(len(told), n + 1)
                least = (Fraction(*e) * size) ** 2
                for length, heavy in enumerate(told):
                    wanted = weights_of_begins(row, length)
                    self.assertEqual(heavy, tuple(sorted(b for b in wanted if wanted[b] > least)))
                    self.assertLess(len(heavy), 1 / Fraction(*e) ** 2)
                    if length:
                        self.assertLessEqual({begin[:-1] for begin in heavy}, set(told[length - 1]))
                self.assertEqual(told[-1], linear_list(row, e))

    def test_no_bits_and_all_bits(self):
        row = (2, (2, -1, 0, 1))
        self.assertEqual(begin_weight(row, ()), pair(4 * Fraction(6, 4)))
        for a in all_words(2):
            self.assertEqual(begin_weight(row, a), pair(Fraction(*linear_sum(row, a)) ** 2))
        # Just e e N N is not above it.
        self.assertEqual(begins(sign_row((1, 1)), (1, 1)), ((), ()))
        self.assertEqual(begins((1, (0, 0)), (1, 999999999)), ((), ()))

    def test_errors(self):
        bad = tuple(value for value in BAD_STRINGS if value not in ((), (0,)))
        self.refuses(begin_weight, [(2, (2, -2, 0, 1)), (0,)], [(InvalidRow, BAD_LINEAR_ROWS), (InvalidWord, bad)])
        self.refuses(begin_weight, [(2, (2, -2, 0, 1)), ()], [(InvalidRow, BAD_LINEAR_ROWS), (InvalidWord, bad)])
        self.refuses(begin_weight, [(2, (2, -2, 0, 1)), (1, 1)], [(InvalidRow, BAD_LINEAR_ROWS), (InvalidWord, bad)])


class NotTrue(Case):
    """[7.5]."""

    def test_a_list_for_a_half_can_be_empty(self):
        self.assertEqual(linear_list(sign_row((1, 1, 1, -1)), (1, 2)), ())

    def test_a_begin_need_not_go_on(self):
        told = begins(sign_row((1, 1, 1, -1)), (1, 2))
        self.assertEqual((told[1], told[2]), (((0,), (1,)), ()))

    def test_a_string_in_the_list_can_agree_at_fewer_points(self):
        truth = (-1, -1, -1, -1)
        self.assertEqual(linear_list(sign_row(truth), (1, 2)), ((0, 0),))
        self.assertEqual(sum(one == other for one, other in zip(truth, linear_truth((0, 0)))), 0)


if __name__ == "__main__":
    unittest.main()
