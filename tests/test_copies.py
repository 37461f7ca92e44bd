"""[13.1] to [13.6]: sums of copies. What is told is worked out here by the words of the document."""

import random
import unittest
from fractions import Fraction
from itertools import product

from hardbits.copies.copies import (copies, copies_answer, copies_bound, copies_sum, is_copies_answer, lines, splits)
from hardbits.core.cores import least_edge
from hardbits.core.votes import vote_row, wrong_points
from hardbits.errors import InvalidFraction, InvalidMeasure, InvalidNumber, InvalidTruth, TooMany
from tests.support import BAD_FRACTIONS, BAD_NUMBERS, BAD_ROWS, Case, DEEP, HUGE, LONG
from tests.test_cores import EDGES, SHARES, is_above, is_core, values
from tests.test_fractions import pair
from tests.test_truths import some_truths

ODD, BEND, SAME, WALL = ((1, -1), (1, -1)), (1, 1, 1, -1), ((1, 1), (1, 1)), (1, 1, -1, -1)
BAD_COPIED = (None, 1, True, (), (1, -1), [(1, -1)], ((),), ((), ()), ((1, -1),) * 4, ((1, -1), (1,)), ((1,), (1, -1)),
              ((1, -1), [1, -1]), ((1, 0),), ((1, 2),), ((1, True),), ((1, None),), ((1, -1), None), ((1,) * 33,),
              ((1,) * 33,) * 3, ((1, (1,)),), ((1, HUGE),), "+-", {}, DEEP)
# Wrong tests for two copies on two points.
BAD_COPY_TESTS = (None, 1, True, (), (1,), (1, -1), (1, 1, 1), (1,) * 5, (1,) * 8, (1,) * 16, [1, 1, 1, 1], (1, 1, 1, 0),
                  (1, 1, 1, 2), (1, 1, 1, True), (1, 1, 1, None), (1, 1, 1, (1,)), (1, 1, 1, HUGE), "++--", {}, DEEP)
SIZES = ((1, 1), (1, 2), (1, 3), (2, 1), (2, 2), (2, 3), (3, 1), (3, 2), (3, 3), (4, 2), (5, 2), (4, 3), (32, 1))


def points_of(N, k):
    """All points of copies, in the sequence of their numbers."""
    found = list(product(range(N), repeat=k))
    for number, point in enumerate(found):
        told = 0
        for x in point:
            told = told * N + x
        assert told == number
    return found


def copies_by_words(truths):
    found = []
    for point in points_of(len(truths[0]), len(truths)):
        value = 1
        for truth, x in zip(truths, point):
            value *= truth[x]
        found.append(value)
    return tuple(found)


def lines_by_words(N, k, test):
    signs = dict(zip(points_of(N, k), test))
    found = set()
    for place in range(k):
        for others in product(range(N), repeat=k - 1):
            line = tuple(signs[others[:place] + (x,) + others[place:]] for x in range(N))
            found |= {line, tuple(-value for value in line)}
    return tuple(sorted(found))


def parts_by_words(truths, test, measures):
    N, k = len(truths[0]), len(truths)
    weights, parts = [values(row) for row in measures], [Fraction(0)] * (k + 1)
    for point, sign, told in zip(points_of(N, k), copies_by_words(truths), test):
        for i in range(k + 1):
            weight = Fraction(sign * told)
            for j in range(min(i, k)):
                weight *= 1 - weights[j][point[j]]
            if i < k:
                weight *= weights[i][point[i]]
            parts[i] += weight
    return parts


def bound_by_words(d, e, k):
    off = (1 - Fraction(*d)) ** k
    return off + Fraction(*e) * (1 - off)


def some_cases(seed, many, sizes=SIZES):
    """Truths with tests: drawn ones, the copies themselves, copies with a few signs turned, and such of one sign."""
    source = random.Random(seed)
    for N, k in sizes:
        for round_number in range(many):
            truths = tuple(some_truths(source.random(), k, N))
            if round_number % 3 == 2:
                truths = (truths[0],) * k
            test = list(copies_by_words(truths)) if round_number % 2 else [1] * N ** k
            for number in range(N ** k):
                if round_number and source.random() < (0.5, 0.1, 0.25)[round_number % 3]:
                    test[number] = -test[number]
            yield truths, tuple(test)


def some_measures(source, N, k):
    """Rows with values from 0 to 1, noughts alone and ones alone too."""
    found = []
    for _ in range(k):
        bottom = source.choice((1, 2, 7, LONG))
        most = source.choice((0, bottom, bottom, bottom))
        found.append((bottom, tuple(source.choice((0, most, source.randint(0, most))) for _ in range(N))))
    return tuple(found)


class Copies(Case):

    def test_copies_and_sums(self):
        for truths, test in some_cases(1, 4):
            told = copies_by_words(truths)
            self.assertEqual(copies(truths), told)
            self.assertEqual(copies_sum(truths, test), sum(a * b for a, b in zip(told, test)))
            self.assertEqual(copies_sum(truths, told), len(told))

    def test_sequence_of_places(self):
        self.assertEqual(copies(((1, -1), (1, 1))), (1, 1, -1, -1))
        self.assertEqual(copies(((1, 1), (1, -1))), (1, -1, 1, -1))
        self.assertEqual(copies(((1, -1), (1, 1), (1, 1))), (1, 1, 1, 1, -1, -1, -1, -1))

    def test_most_points(self):
        self.assertEqual(len(copies(((1,) * 16,) * 3)), 4096)
        self.assertEqual(copies_sum(((1,) * 16,) * 3, (-1,) * 4096), -4096)
        self.assertEqual(len(copies(((1,) * 32,) * 2)), 1024)
        for N in (17, 32):
            self.fails_for(TooMany, 4096, copies, ((1,) * N,) * 3)
            self.fails_for(TooMany, 4096, copies_sum, ((1,) * N,) * 3, (1,) * N ** 3)
            self.fails_for(TooMany, 4096, splits, ((1,) * N,) * 3, (1,) * N ** 3, ((1, (1,) * N),) * 3)
            self.fails_for(TooMany, 4096, lines, N, 3, (1,) * N ** 3)
            self.fails_for(TooMany, 4096, copies_answer, ((1,) * N,) * 3, (1,) * N ** 3, (1, 1), (0, 1))
            self.fails_for(TooMany, 4096, is_copies_answer, ((1,) * N,) * 3, (1,) * N ** 3, (1, 1), (0, 1), None)

    def test_errors(self):
        much = ((1,) * 17,) * 3
        self.refuses(copies, [ODD], [(InvalidTruth, BAD_COPIED)], [((much,), TooMany, 4096)])
        bad = [(InvalidTruth, BAD_COPIED), (InvalidTruth, BAD_COPY_TESTS)]
        self.refuses(copies_sum, [ODD, BEND], bad, [((much, (1,) * 4913), TooMany, 4096)])


class Lines(Case):

    def test_lines(self):
        for truths, test in some_cases(10, 4):
            N, k = len(truths[0]), len(truths)
            self.assertEqual(lines(N, k, test), lines_by_words(N, k, test))

    def test_one_copy(self):
        self.assertEqual(lines(3, 1, (1, -1, -1)), ((-1, 1, 1), (1, -1, -1)))
        self.assertEqual(lines(1, 3, (1,)), ((-1,), (1,)))
        self.assertEqual(lines(32, 1, (1,) * 32), ((-1,) * 32, (1,) * 32))

    def test_most_lines(self):
        source = random.Random(11)
        test = tuple(source.choice((1, -1)) for _ in range(512))
        self.assertEqual(lines(8, 3, test), lines_by_words(8, 3, test))
        just, much = self.just_256(), self.just_256(1)
        self.assertEqual(len(lines_by_words(10, 3, just)), 256)
        self.assertEqual(lines(10, 3, just), lines_by_words(10, 3, just))
        self.assertGreater(len(lines_by_words(10, 3, much)), 256)
        self.fails_for(TooMany, 256, lines, 10, 3, much)
        self.fails_for(TooMany, 256, copies_answer, ((1,) * 10,) * 3, much, (1, 1), (1, 1))
        self.fails_for(TooMany, 256, is_copies_answer, ((1,) * 10,) * 3, much, (1, 1), (1, 1), ("cores", ()))
        whole = ("cores", ((1, (1,) * 10),) * 3)
        self.assertIs(is_copies_answer(((1,) * 10,) * 3, just, (1, 1), (1, 1), whole), True)

    def just_256(self, more=0):
        """A test of three copies on ten points with just 256 lines, or a few more, found by turning signs."""
        source, test = random.Random(13), [1] * 1000
        while True:
            count = len(lines_by_words(10, 3, test))
            if count == 256 and not more:
                return tuple(test)
            if count > 256:
                if more:
                    return tuple(test)
                source, test = random.Random(source.random()), [1] * 1000
            test[source.randrange(1000)] = -1

    def test_errors(self):
        bad = [(InvalidNumber, BAD_NUMBERS + (0, 33)), (InvalidNumber, BAD_NUMBERS + (0, 4)), (InvalidTruth, BAD_COPY_TESTS)]
        self.refuses(lines, [2, 2, BEND], bad, [((17, 3, (1,) * 4913), TooMany, 4096)])
        self.refuses(lines, [32, 1, (1,) * 32], bad)
        # A test of a wrong length is refused ahead of too many points.
        self.fails(InvalidTruth, lines, 32, 3, (1,) * 32767)
        self.fails(InvalidTruth, copies_sum, ((1,) * 17,) * 3, (1,) * 4912)


class Bounds(Case):

    def test_bounds(self):
        for d in ((1, 1), (1, 2), (1, 999999999), (2, 3), (999999998, 999999999)):
            for e in ((0, 1), (1, 1), (1, 3), (999999998, 999999999)):
                for k in (1, 2, 3):
                    self.assertEqual(copies_bound(d, e, k), pair(bound_by_words(d, e, k)))
        bad = [(InvalidFraction, SHARES), (InvalidFraction, EDGES), (InvalidNumber, BAD_NUMBERS + (0, 4))]
        self.refuses(copies_bound, [(1, 2), (1, 2), 3], bad)
        self.refuses(copies_bound, [(1, 1), (0, 1), 1], bad)
        self.refuses(copies_bound, [(1, 1), (1, 1), 2], bad)


class Splits(Case):

    def test_parts(self):
        source = random.Random(20)
        for truths, test in some_cases(20, 4):
            N, k = len(truths[0]), len(truths)
            for _ in range(3):
                measures = some_measures(source, N, k)
                told = splits(truths, test, measures)
                self.assertEqual(told, tuple(pair(part) for part in parts_by_words(truths, test, measures)))
                self.assertEqual(sum(Fraction(*part) for part in told), copies_sum(truths, test))

    def test_noughts_and_ones(self):
        for truths, test in some_cases(21, 2):
            N, k = len(truths[0]), len(truths)
            whole = copies_sum(truths, test)
            self.assertEqual(splits(truths, test, ((HUGE, (0,) * N),) * k), ((0, 1),) * k + ((whole, 1),))
            self.assertEqual(splits(truths, test, ((HUGE, (HUGE,) * N),) * k), ((whole, 1),) + ((0, 1),) * k)

    def test_unlike_shares(self):
        told = splits(ODD, BEND, ((3, (1, 0)), (LONG, (LONG, 1))))
        self.assertEqual(told, tuple(pair(part) for part in parts_by_words(ODD, BEND, ((3, (1, 0)), (LONG, (LONG, 1))))))

    def test_errors(self):
        row = (2, (1, 2))
        measures = (None, 1, (), (row,), (row,) * 3, [row, row], row, (row, None), (row, (2, (1,))), (row, (2, (1, 2, 0))),
                    (row, (2, (1, 3))), (row, (2, (-1, 0))), (row, (0, (0, 0))), (row, (True, (1, 0))), (row, (2, [1, 2])),
                    (row, (2, (1, True))), (row, (2, (1, None))), (row, DEEP), (row, (LONG, (LONG + 1, 0))), DEEP, "rows")
        measures += tuple((row, bad) for bad in BAD_ROWS)
        bad = [(InvalidTruth, BAD_COPIED), (InvalidTruth, BAD_COPY_TESTS), (InvalidMeasure, measures)]
        much = (((1,) * 17,) * 3, (1,) * 4913, ((1, (1,) * 17),) * 3)
        self.refuses(splits, [ODD, BEND, (row, row)], bad, [(much, TooMany, 4096)])


def is_right(truths, test, d, e, value):
    """Whether the value, of the right form, is right by the words of [13.5]."""
    N, k = len(truths[0]), len(truths)
    family = lines_by_words(N, k, test)
    if value[0] == "cores":
        return len(value[1]) == k and all(is_core(truth, family, d, e, w) for truth, w in zip(truths, value[1]))
    return is_above(truths[value[1]], family, d, e, value[2])


class Answers(Case):

    def edges(self, truths, family, d):
        """Edges at and just below the greatest of the least edges, and others."""
        at = max(Fraction(*least_edge(truth, family, d)) for truth in truths)
        found = {Fraction(0), Fraction(1), Fraction(1, 3), at, at * Fraction(999, 1000)}
        return [pair(e) for e in sorted(found) if 0 <= e <= 1 and e.denominator < 10 ** 9]

    def test_just_one_of_both(self):
        kinds = {"cores": 0, "mix": 0}
        for truths, test in some_cases(30, 6, SIZES[:11] + ((32, 1),)):
            N, k = len(truths[0]), len(truths)
            family = lines(N, k, test)
            for d in ((1, 1), (1, 2), (2, 3), (1, N), (1, 2 * N + 1)):
                for e in self.edges(truths, family, d):
                    answer = copies_answer(truths, test, d, e)
                    kinds[answer[0]] += 1
                    least = max(Fraction(*least_edge(truth, family, d)) for truth in truths)
                    self.assertEqual(answer[0], "cores" if least <= Fraction(*e) else "mix")
                    self.assertTrue(is_right(truths, test, d, e, answer))
                    self.assertIs(is_copies_answer(truths, test, d, e, answer), True)
                    if answer[0] == "cores":
                        self.check_bounds(truths, test, d, e, answer[1])
                    else:
                        wrong = wrong_points(truths[answer[1]], vote_row(family, answer[2]))
                        self.assertLess(len(wrong), Fraction(*d) * N)
        self.assertGreater(min(kinds.values()), 100)

    def check_bounds(self, truths, test, d, e, measures):
        """[13.4]: the amounts of the parts, and of the sum."""
        N, k = len(truths[0]), len(truths)
        off, size = 1 - Fraction(*d), N ** k
        parts = [abs(Fraction(*part)) for part in splits(truths, test, measures)]
        for i in range(k):
            self.assertLessEqual(parts[i], off ** i * Fraction(*e) * Fraction(*d) * size)
        self.assertLessEqual(parts[k], off ** k * size)
        self.assertLessEqual(abs(copies_sum(truths, test)), bound_by_words(d, e, k) * size)

    def test_the_judge_by_the_words(self):
        cases = ((ODD, BEND), (SAME, WALL), (((1, -1),), (1, 1)), (((1, 1), (1, -1)), (1, -1, 1, 1)))
        for truths, test in cases:
            family = lines_by_words(2, len(truths), test)
            for d, e in (((1, 1), (0, 1)), ((1, 2), (0, 1)), ((2, 3), (1, 2)), ((1, 1), (1, 2)), ((1, 1), (1, 1))):
                rows = [(2, numbers) for numbers in product(range(3), repeat=2)]
                for measures in product(rows, repeat=len(truths)):
                    value = ("cores", measures)
                    self.assertIs(is_copies_answer(truths, test, d, e, value), is_right(truths, test, d, e, value))
                for numbers in product(range(3), repeat=len(family)):
                    for place in range(len(truths)):
                        value = ("mix", place, (2, numbers))
                        self.assertIs(is_copies_answer(truths, test, d, e, value), is_right(truths, test, d, e, value))

    def test_near_values(self):
        # The lines are (-1, -1) and (1, 1): both truths are one of them.
        right = (("mix", 0, (1, (0, 1))), ("mix", 1, (3 * LONG, (LONG, 2 * LONG))), ("mix", 0, (5, (1, 4))))
        wrong = (("mix", 2, (1, (0, 1))), ("mix", -1, (1, (0, 1))), ("mix", 0, (1, (1, 0))), ("mix", 0, (2, (1, 1))),
                 ("mix", 0, (3, (0, 1))), ("mix", 0, (1, (0, 1, 0))), ("mix", 0, (1, (-1, 2))), ("mix", (1, (0, 1))),
                 ("mix", 0, (1, (0, 1)), 0), ("mix", HUGE, (1, (0, 1))), ("cores", ((1, (1, 1)),) * 2),
                 ("mix", 0, (2 * LONG, (LONG, LONG))), ("mix", 0), ("cores",))
        self.judged(is_copies_answer, (SAME, (1, 1, 1, 1), (1, 1), (0, 1)), right, wrong)
        right = (("cores", ((2, (1, 1)), (2, (1, 1)))), ("cores", ((2 * LONG, (LONG, LONG)), (4, (2, 2)))))
        wrong = (("cores", ((2, (1, 1)),)), ("cores", ((2, (1, 1)),) * 3), ("cores", ((2, (2, 0)), (2, (1, 1)))),
                 ("cores", ((2, (1, 1)), (2, (1, 0)))), ("cores", ((2, (1, 1)), (2, (1, 2)))), ("cores", ((2, (1, 1)), (1, (1, 0)))),
                 ("cores", ((2 * LONG, (LONG + 1, LONG - 1)), (2, (1, 1)))), ("cores", ((2, (1, 1)), (2, (1, 1))), 0),
                 ("cores", ((2, (1, 1)), (2, (1, 1, 0)))), ("cores", (2, (1, 1))), ("mix", 0, (1, (0, 1))))
        self.judged(is_copies_answer, (ODD, (1, 1, 1, 1), (1, 2), (0, 1)), right, wrong)

    def test_limits(self):
        source = random.Random(31)
        # 64 lines of 32 points are just let, and a few more are not: rows and columns are the same at first.
        table = [[source.choice((1, -1)) for _ in range(32)] for _ in range(32)]
        test = [table[min(x, y)][max(x, y)] for x in range(32) for y in range(32)]
        self.assertEqual(len(lines_by_words(32, 2, test)), 64)
        truths = tuple(some_truths(33, 2, 32))
        answer = copies_answer(truths, tuple(test), (1, 2), (1, 5))
        self.assertTrue(is_right(truths, test, (1, 2), (1, 5), answer))
        test[1] = -test[1]
        self.assertEqual(len(lines_by_words(32, 2, test)), 68)
        self.fails_for(TooMany, 2048, copies_answer, truths, tuple(test), (1, 2), (1, 5))
        many = tuple(source.choice((1, -1)) for _ in range(1024))
        self.assertGreater(len(lines_by_words(32, 2, many)), 64)
        self.fails_for(TooMany, 2048, copies_answer, truths, many, (1, 2), (1, 5))
        whole = ("cores", ((1, (1,) * 32),) * 2)
        self.assertIs(is_copies_answer(truths, many, (1, 1), (1, 1), whole), True)
        self.assertIs(is_copies_answer(truths, many, (1, 1), (0, 1), whole), False)
        # 256 lines of eight points are just let.
        test = tuple(source.choice((1, -1)) for _ in range(512))
        answer = copies_answer(((1,) * 8,) * 3, test, (1, 4), (1, 3))
        self.assertTrue(is_right(((1,) * 8,) * 3, test, (1, 4), (1, 3), answer))

    def test_errors(self):
        bad = [(InvalidTruth, BAD_COPIED), (InvalidTruth, BAD_COPY_TESTS), (InvalidFraction, SHARES), (InvalidFraction, EDGES)]
        source = random.Random(34)
        wide = tuple(source.choice((1, -1)) for _ in range(1024))
        deep = tuple(source.choice((1, -1)) for _ in range(4096))
        points = (((1,) * 17,) * 3, (1,) * 4913, (1, 2), (1, 2))
        tests = (((1,) * 16,) * 3, deep, (1, 2), (1, 2))
        work = (((1,) * 32,) * 2, wide, (1, 2), (1, 2))
        self.refuses(copies_answer, [ODD, BEND, (1, 2), (1, 2)], bad,
                     [(points, TooMany, 4096), (tests, TooMany, 256), (work, TooMany, 2048)])
        self.refuses(is_copies_answer, [ODD, BEND, (1, 1), (0, 1), None], bad + [None],
                     [(points + (DEEP,), TooMany, 4096), (tests + (None,), TooMany, 256)])
        is_copies_answer(*work, None)
        self.refuses(copies_answer, [ODD, BEND, (1, 1), (1, 1)], bad)


class NotTrue(Case):
    """[13.6]."""

    def test_a_sum_within_the_bound_need_not_tell_cores(self):
        self.assertEqual(copies_sum(SAME, WALL), 0)
        self.assertEqual(copies_answer(SAME, WALL, (1, 1), (0, 1))[0], "mix")

    def test_the_copies_themselves_have_the_greatest_sum(self):
        self.assertEqual(copies_sum(ODD, copies(ODD)), 4)


if __name__ == "__main__":
    unittest.main()
