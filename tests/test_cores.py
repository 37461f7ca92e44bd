"""[0.12] and [4.1] to [4.5]: cores. What is told is worked out here by the words of the document."""

import random
import unittest
from fractions import Fraction
from itertools import product

from hardbits.core.cores import (core_answer, edge_answer, is_core_answer, is_edge_answer, is_share_answer, least_edge,
                                 margins, share_answer, share_of, test_sums as sums_of_tests)
from hardbits.errors import InvalidFamily, InvalidFraction, InvalidMeasure, InvalidMix, InvalidTruth, TooMany
from hardbits.game.games import worth
from hardbits.points.truths import closed_family
from tests.support import BAD_FRACTIONS, BAD_ROWS, Case, DEEP, HUGE, LONG, is_least
from tests.test_fractions import pair
from tests.test_truths import BAD_FAMILIES, BAD_TRUTHS, some_truths

ONES, TWO = (1, 1, 1), ((1, 1, -1), (1, -1, 1))
THREE = TWO + ((-1, 1, 1),)
SHARES = BAD_FRACTIONS + ((0, 1), (-1, 2), (3, 2), (2, 1))
EDGES = BAD_FRACTIONS + ((-1, 2), (3, 2), (2, 1), (999999999, 999999998))
BAD_FAMILIES_ON_THREE = BAD_FAMILIES + (((1, 1),), ((1, 1, 1, 1),), ((1, 1, 1), (1, 1)))
BAD_MEASURES = BAD_ROWS + ((1, (1, 1)), (1, (1, 1, 1, 1)), (1, (0, 0, 0)), (1, (2, 0, 0)), (2, (1, 1, -1)),
                           (2, (3, 0, 0)))
BAD_MIXES = BAD_ROWS + ((1, (1,)), (1, (1, 0, 0)), (1, (1, 1)), (2, (1, 0)), (1, (2, -1)), (1, (0, 0)))


def values(row):
    return [Fraction(number, row[0]) for number in row[1]]


def sums(f, family, w):
    """The sum of w f t for each test."""
    weights = values(w)
    return [sum(weight * sign * told for weight, sign, told in zip(weights, f, test)) for test in family]


def point_margins(f, family, y):
    weights = values(y)
    return [sign * sum(weight * test[x] for weight, test in zip(weights, family)) for x, sign in enumerate(f)]


def least(numbers, size):
    """The least sum of the numbers for the size: the least ones count whole, the next one for the rest."""
    total = Fraction(0)
    for number in sorted(numbers):
        part = min(Fraction(1), size)
        total += part * number
        size -= part
    return total


def is_measure(value, points, d):
    weights = values(value)
    return (value[0] >= 1 and len(weights) == points and all(0 <= weight <= 1 for weight in weights)
            and sum(weights) == Fraction(*d) * points)


def is_core(f, family, d, e, w):
    return is_measure(w, len(f), d) and max(sums(f, family, w)) <= Fraction(*e) * Fraction(*d) * len(f)


def is_mix(value, count):
    return value[0] >= 1 and len(value[1]) == count and min(value[1]) >= 0 and sum(value[1]) == value[0]


def is_above(f, family, d, e, y):
    size = Fraction(*d) * len(f)
    return is_mix(y, len(family)) and least(point_margins(f, family, y), size) > Fraction(*e) * size


def some_cases(seed, count, most=6):
    """Truths with families of tests, also with a test twice, closed ones, and such that hold the truth."""
    source = random.Random(seed)
    for k in range(count):
        points = source.randint(1, most)
        f = some_truths(seed * 1000 + k, 1, points)[0]
        tests = some_truths(seed * 2000 + k, source.randint(1, 5), points)
        if k % 5 == 0:
            tests.append(tests[0])
        if k % 5 == 1:
            tests = list(closed_family(tuple(tests)))
        if k % 5 == 2:
            tests.append(f)
        yield f, tuple(tests)


def shares_for(points):
    """Shares at 1 / N, just below and just above it, and others."""
    near = Fraction(1, points)
    found = {Fraction(1), near, near * Fraction(99, 100), near * Fraction(101, 100), near / 3, Fraction(1, 2),
             Fraction(2, 3), Fraction(2 * points - 1, 2 * points)}
    return [pair(share) for share in sorted(found) if 0 < share <= 1]


class Sums(Case):

    def test_shares(self):
        self.assertEqual(share_of((2, (1, 2, 2))), (5, 6))
        self.assertEqual(share_of((HUGE, (HUGE,))), (1, 1))
        self.assertEqual(share_of((LONG, (0, LONG, 0, 0))), (1, 4))
        self.assertEqual(share_of((4, (1,) * 32)), (1, 4))
        self.assertEqual(share_of((1000, (1, 0))), (1, 2000))
        bad = BAD_ROWS + ((1, (0,)), (1, (2,)), (2, (1, -1)), (1, (1,) * 33), (3, (1, 4)))
        self.refuses(share_of, [(1, (1, 0))], [(InvalidMeasure, bad)])

    def test_sums_and_margins(self):
        source = random.Random(1)
        for f, family in some_cases(1, 60):
            w = (5, tuple(source.randint(0, 5) for _ in f[1:]) + (3,))
            weights = [source.randint(0, 4) for _ in family[1:]] + [1]
            y = (sum(weights), tuple(weights))
            for told, wanted in ((sums_of_tests(f, family, w), sums(f, family, w)),
                                 (margins(f, family, y), point_margins(f, family, y))):
                self.assertEqual(values(told), wanted)
                self.assertTrue(is_least(told))
            mean = sum(a * b for a, b in zip(values(y), sums(f, family, w)))
            self.assertEqual(mean, sum(a * b for a, b in zip(values(w), point_margins(f, family, y))))

    def test_rows_of_any_length(self):
        self.assertEqual(sums_of_tests(ONES, TWO, (2 * LONG, (LONG, 2 * LONG, 2 * LONG))), (2, (1, 1)))
        self.assertEqual(margins(ONES, TWO, (2 * LONG, (LONG, LONG))), (1, (1, 0, 0)))

    def test_errors(self):
        truth, family = (InvalidTruth, BAD_TRUTHS), (InvalidFamily, BAD_FAMILIES_ON_THREE)
        self.refuses(sums_of_tests, [ONES, TWO, (2, (1, 2, 2))], [truth, family, (InvalidMeasure, BAD_MEASURES)])
        self.refuses(margins, [ONES, TWO, (2, (1, 1))], [truth, family, (InvalidMix, BAD_MIXES)])


class CoresOrMixes(Case):

    def check(self, f, family, d, e):
        kind, told = answer = core_answer(f, family, d, e)
        self.assertIs(is_core_answer(f, family, d, e, answer), True)
        if kind == "core":
            self.assertTrue(is_core(f, family, d, e, told), (f, family, d, e, told))
        else:
            self.assertEqual(kind, "mix")
            self.assertTrue(is_above(f, family, d, e, told), (f, family, d, e, told))
            wrong = [margin for margin in point_margins(f, family, told) if margin <= 0]
            self.assertLess(len(wrong), Fraction(*d) * len(f))
        return kind

    def test_just_one_of_both(self):
        for f, family in some_cases(2, 40):
            for d in shares_for(len(f)):
                edge = Fraction(*least_edge(f, family, d))
                for e in ((0, 1), (1, 1), (1, 3), (999999998, 999999999), (1, 999999999)):
                    kind = self.check(f, family, d, e)
                    self.assertEqual(kind, "core" if edge <= Fraction(*e) else "mix")
                if 0 <= edge <= 1 and edge.denominator < 10 ** 6:
                    self.assertEqual(self.check(f, family, d, pair(edge)), "core")
                    if edge > 0:
                        self.assertEqual(self.check(f, family, d, pair(edge - edge / 1000)), "mix")

    def test_the_judge_by_the_words(self):
        for f, family in [(ONES, TWO), (ONES, THREE), ((1, -1, 1), TWO), ((1, -1), ((1, -1), (1, 1), (1, 1)))]:
            for d in ((1, 1), (2, 3), (1, 2), (1, 3), (5, 6), (1, 6)):
                for e in ((0, 1), (1, 5), (1, 3), (1, 1)):
                    for numbers in product(range(4), repeat=len(f)):
                        core = ("core", (3, numbers))
                        self.assertIs(is_core_answer(f, family, d, e, core), is_core(f, family, d, e, core[1]))
                    for numbers in product(range(4), repeat=len(family)):
                        mix = ("mix", (3, numbers))
                        self.assertIs(is_core_answer(f, family, d, e, mix), is_above(f, family, d, e, mix[1]))

    def test_near_values(self):
        right = (("core", (2, (1, 2, 2))), ("core", (2 * LONG, (LONG, 2 * LONG, 2 * LONG))))
        wrong = (("core", (2, (2, 1, 2))), ("core", (2, (1, 2, 1))), ("core", (1, (0, 1, 1))),
                 ("core", (2, (1, 2, 2, 0))),
                 ("core", (2, (1, 2))), ("core", (2, (-1, 3, 3))), ("core", (2, (1, 1, 3))), ("mix", (2, (1, 1))),
                 ("core", (2 * LONG, (LONG + 1, 2 * LONG - 1, 2 * LONG))), ("core", (2, (1, 2, 2)), 0))
        self.judged(is_core_answer, (ONES, TWO, (5, 6), (1, 5)), right, wrong)
        # All mixes of these two tests have the same least sum for this share.
        right = (("mix", (2, (1, 1))), ("mix", (2 * LONG, (LONG + 1, LONG - 1))), ("mix", (1, (1, 0))))
        wrong = (("mix", (2, (1, 0))), ("mix", (2, (1, 1, 0))), ("mix", (2, (3, -1))), ("mix", (1, (1, 1))),
                 ("mix", (2, (1, 1)), 0), ("core", (1, (1, 1, 1))), ("core", (2, (1, 1))), ("core", (2, (1, 2, 2))))
        self.judged(is_core_answer, (ONES, TWO, (5, 6), (1, 6)), right, wrong)
        right = (("mix", (3, (1, 1, 1))), ("mix", (3 * LONG, (LONG + 1, LONG - 1, LONG))), ("mix", (14, (5, 5, 4))))
        wrong = (("mix", (1, (1, 0, 0))), ("mix", (2, (1, 1, 0))), ("mix", (8, (6, 1, 1))), ("mix", (3, (1, 1, 1, 0))),
                 ("mix", (3, (1, 1, 0))), ("mix", (3, (2, 2, -1))), ("core", (6, (5, 5, 5))))
        self.judged(is_core_answer, (ONES, THREE, (5, 6), (1, 4)), right, wrong)
        # Exactly at the least edge a mix is not above it.
        self.judged(is_core_answer, (ONES, TWO, (1, 1), (1, 3)), (("core", (1, (1, 1, 1))),), (("mix", (2, (1, 1))),))
        # A measure of another share is none of this share.
        self.judged(is_core_answer, (ONES, TWO, (1, 2), (1, 1)), (("core", (2, (1, 1, 1))), ("core", (2, (2, 1, 0)))),
                    (("core", (2, (1, 1, 0))), ("core", (1, (1, 1, 0)))))

    def test_errors(self):
        wrong = [(InvalidTruth, BAD_TRUTHS), (InvalidFamily, BAD_FAMILIES_ON_THREE), (InvalidFraction, SHARES),
                 (InvalidFraction, EDGES)]
        much = [((f, family, (1, 2), (1, 2)), TooMany, 2048) for f, family in too_many()]
        self.refuses(core_answer, [ONES, TWO, (1, 2), (1, 2)], wrong, much)
        self.refuses(is_core_answer, [ONES, TWO, (1, 2), (1, 2), None], wrong + [None])
        for good in ([ONES, TWO, (1, 1), (0, 1)], [ONES, TWO, (1, 999999999), (1, 1)]):
            self.refuses(core_answer, good, wrong)


def too_many():
    """Truths with families that are just too many."""
    yield (1,) * 32, ((1,) * 32,) * 65
    yield (1,) * 9, ((1,) * 9,) * 228
    yield (1,) * 32, ((1,) * 32,) * 256


class Limits(Case):

    def test_just_let(self):
        source = random.Random(3)
        for points, count in ((32, 64), (8, 256), (9, 227), (1, 256), (32, 1)):
            f = some_truths(points, 1, points)[0]
            family = tuple(some_truths(points + 1, count, points))
            d, e = pair(Fraction(source.randint(1, 99), 100)), (1, 7)
            kind, told = core_answer(f, family, d, e)
            self.assertTrue((is_core if kind == "core" else is_above)(f, family, d, e, told))
            _, v, w, y = edge_answer(f, family, d)
            self.assertTrue(is_core(f, family, d, v, w))
            self.assertEqual(least(point_margins(f, family, y), Fraction(*d) * points),
                             Fraction(*v) * Fraction(*d) * points)
            self.assertIs(is_share_answer(f, family, e, share_answer(f, family, e)), True)

    def test_judges_and_sums_have_no_limit(self):
        for f, family in too_many():
            core = ("core", (1, f))
            self.assertIs(is_core_answer(f, family, (1, 1), (1, 1), core), True)
            edge = ("edge", (1, 1), (1, f), (len(family), (1,) * len(family)))
            self.assertIs(is_edge_answer(f, family, (1, 1), edge), True)
            share = ("share", (1, 1), (1, f), (1, (0,) * len(family)))
            self.assertIs(is_share_answer(f, family, (1, 1), share), True)
            self.assertEqual(sums_of_tests(f, family, (1, f)), (1, (len(f),) * len(family)))
            self.assertEqual(margins(f, family, (1, (1,) + (0,) * (len(family) - 1))), (1, f))


class LeastEdges(Case):

    def check_edge(self, f, family, d):
        kind, v, w, y = answer = edge_answer(f, family, d)
        size = Fraction(*d) * len(f)
        self.assertEqual((kind, v), ("edge", least_edge(f, family, d)))
        self.assertEqual(v, pair(Fraction(*v)))
        self.assertTrue(is_core(f, family, d, v, w))
        self.assertTrue(is_mix(y, len(family)))
        self.assertEqual(least(point_margins(f, family, y), size), Fraction(*v) * size)
        self.assertIs(is_edge_answer(f, family, d, answer), True)
        return Fraction(*v)

    def test_edges(self):
        for f, family in some_cases(4, 60):
            for d in shares_for(len(f)):
                self.check_edge(f, family, d)

    def test_how_edges_go(self):
        for f, family in some_cases(5, 30):
            shares = [Fraction(k, 12) for k in range(1, 13)]
            edges = [self.check_edge(f, family, pair(share)) for share in shares]
            self.assertEqual(edges, sorted(edges))
            bowed = [share * edge for share, edge in zip(shares, edges)]
            for k in range(len(shares) - 2):
                self.assertLessEqual(2 * bowed[k + 1], bowed[k] + bowed[k + 2])
            further = family + (tuple(reversed(f)),)
            for share, edge in zip(shares, edges):
                self.assertGreaterEqual(Fraction(*least_edge(f, further, pair(share))), edge)
                self.assertGreaterEqual(Fraction(*least_edge(f, closed_family(family), pair(share))), 0)

    def test_small_shares_and_the_whole(self):
        for f, family in some_cases(6, 40):
            points = len(f)
            table = (1, tuple(tuple(a * b for a, b in zip(f, test)) for test in family))
            for share in (Fraction(1, points), Fraction(1, 2 * points), Fraction(1, 999999999)):
                self.assertEqual(least_edge(f, family, pair(share)), worth(table))
            mean = max(Fraction(sum(row), points) for row in table[1])
            self.assertEqual(least_edge(f, family, (1, 1)), pair(mean))

    def test_below_nought(self):
        self.assertEqual(least_edge((1, 1), ((-1, -1),), (1, 2)), (-1, 1))
        self.assertEqual(core_answer((1, 1), ((-1, -1),), (1, 2), (0, 1))[0], "core")
        self.assertEqual(least_edge((1,), ((1,),), (1, 1)), (1, 1))

    def test_judge_of_edges(self):
        v, w, y = (1, 5), (2, (1, 2, 2)), (2, (1, 1))
        right = (("edge", v, w, y), ("edge", v, (2 * LONG, (LONG, 2 * LONG, 2 * LONG)), (2 * LONG, (LONG, LONG))),
                 ("edge", v, w, (1, (1, 0))))
        wrong = (("edge", (2, 10), w, y), ("edge", (1, 4), w, y), ("edge", (1, 6), w, y),
                 ("edge", v, (2, (2, 1, 2)), y),
                 ("edge", v, w, (2, (1, 1, 0))), ("edge", v, w), ("edge", v, (2, (1, 2, 1)), y),
                 ("edge", (-1, 5), w, y),
                 ("edge", v, (2, (1, 2, 2, 0)), y), ("mix", v, w, y), ("edge", v, w, y, 0), ("edge", v, w, (1, (1, 1))))
        self.judged(is_edge_answer, (ONES, TWO, (5, 6)), right, wrong)
        v, w, y = (1, 3), (6, (5, 5, 5)), (3, (1, 1, 1))
        wrong = (("edge", v, w, (1, (1, 0, 0))), ("edge", v, w, (4, (2, 1, 1))), ("edge", v, (2, (1, 2, 2)), y),
                 ("edge", v, w, (3 * LONG, (LONG + 1, LONG - 1, LONG))), ("edge", v, (60, (50, 51, 49)), y))
        self.judged(is_edge_answer, (ONES, THREE, (5, 6)), (("edge", v, w, y), ("edge", v, w, (6, (2, 2, 2)))), wrong)
        flat = ("edge", (-1, 1), (2, (1, 1)), (1, (1,)))
        self.judged(is_edge_answer, ((1, 1), ((-1, -1),), (1, 2)), (flat, flat[:2] + ((1, (0, 1)),) + flat[3:]),
                    (("edge", (-1, 2), (2, (1, 1)), (1, (1,))), ("edge", (-1, 1), (1, (1, 1)), (1, (1,)))))

    def test_errors(self):
        wrong = [(InvalidTruth, BAD_TRUTHS), (InvalidFamily, BAD_FAMILIES_ON_THREE), (InvalidFraction, SHARES)]
        much = [((f, family, (1, 2)), TooMany, 2048) for f, family in too_many()]
        self.refuses(least_edge, [ONES, TWO, (1, 2)], wrong, much)
        self.refuses(edge_answer, [ONES, TWO, (1, 2)], wrong, much)
        self.refuses(is_edge_answer, [ONES, TWO, (1, 2), None], wrong + [None])


class AllShares(Case):

    def barred(self, f, family, e, u):
        """The sum over all points of the greater one of 0 and 1 - sum of u (f t - e)."""
        weights, edge = values(u), Fraction(*e)
        gains = [sum(weight * (sign * test[x] - edge) for weight, test in zip(weights, family)) for x,
                 sign in enumerate(f)]
        return sum(max(Fraction(0), 1 - gain) for gain in gains)

    def check(self, f, family, e):
        answer = share_answer(f, family, e)
        self.assertIs(is_share_answer(f, family, e, answer), True)
        if answer[0] == "none":
            y = answer[1]
            self.assertTrue(is_mix(y, len(family)))
            self.assertGreater(min(point_margins(f, family, y)), Fraction(*e))
            return None
        kind, d, w, u = answer
        self.assertEqual((kind, d), ("share", pair(Fraction(*d))))
        self.assertTrue(is_core(f, family, d, e, w))
        self.assertTrue(u[0] >= 1 and len(u[1]) == len(family) and min(u[1]) >= 0)
        self.assertEqual(self.barred(f, family, e, u), Fraction(*d) * len(f))
        return Fraction(*d)

    def test_just_one_of_both(self):
        for f, family in some_cases(7, 60):
            for e in ((0, 1), (1, 1), (1, 3), (1, 5), (2, 7), (1, 999999999)):
                share = self.check(f, family, e)
                if share is None:
                    # So no share has a core.
                    for d in ((1, 1), (1, len(f)), (1, 999999999)):
                        self.assertEqual(core_answer(f, family, d, e)[0], "mix")
                elif share.denominator < 10 ** 6:
                    self.assertEqual(core_answer(f, family, pair(share), e)[0], "core")
                    self.assertEqual(core_answer(f, family, pair(share * Fraction(2, 3)), e)[0], "core")
                    if share < 1:
                        self.assertEqual(core_answer(f, family, pair(share + (1 - share) / 100), e)[0], "mix")

    def test_the_whole(self):
        self.assertEqual(self.check(ONES, TWO, (1, 3)), 1)
        self.assertEqual(self.check(ONES, TWO, (1, 5)), Fraction(5, 6))
        self.assertEqual(self.check(ONES, TWO, (1, 1)), 1)
        self.assertIsNone(self.check(ONES, (ONES,), (1, 2)))
        self.assertEqual(self.check(ONES, (ONES,), (1, 1)), 1)

    def test_judge_of_shares(self):
        d, w, u = (5, 6), (2, (1, 2, 2)), (8, (5, 5))
        right = (("share", d, w, u), ("share", d, (2 * LONG, (LONG, 2 * LONG, 2 * LONG)),
                                      (8 * LONG, (5 * LONG, 5 * LONG))))
        wrong = (("share", (10, 12), w, u), ("share", (2, 3), (1, (0, 1, 1)), u), ("share", d, w, (8, (5, 4))),
                 ("share", d, w, (8, (4, 5))), ("share", d, w, (7, (5, 5))), ("share", d, w, (8, (5, 5, 0))),
                 ("share", d, w, (8, (5, -5))), ("share", d, w, (8, (0, 0))), ("share", d, (2, (2, 1, 2)), u),
                 ("share", d, (2, (1, 2, 1)), u), ("share", (1, 1), (1, (1, 1, 1)), u), ("share", d, w),
                 ("none", (2, (1, 1))), ("share", d, w, u, 0), ("share", (0, 1), (1, (0, 0, 0)), u), ("edge", d, w, u))
        self.judged(is_share_answer, (ONES, TWO, (1, 5)), right, wrong)
        right = (("none", (3, (1, 1, 1))), ("none", (3 * LONG, (LONG + 1, LONG, LONG - 1))), ("none", (14, (5, 5, 4))))
        wrong = (("none", (1, (1, 0, 0))), ("none", (8, (3, 3, 2))), ("none", (3, (1, 1, 0))),
                 ("none", (3, (1, 1, 1, 0))),
                 ("none", (1, (1, 1, 1))), ("mix", (3, (1, 1, 1))), ("none", (3, (1, 1, 1)), 0),
                 ("share", (0, 1), (1, (0, 0, 0)), (1, (4, 4, 4))), ("share", (1, 1), (1, (1, 1, 1)), (1, (0, 0, 0))))
        self.judged(is_share_answer, (ONES, THREE, (1, 4)), right, wrong)
        # Each margin is above e: exactly at e the mix is none.
        self.judged(is_share_answer, (ONES, THREE, (1, 3)), (("share", (1, 1), (1, (1, 1, 1)), (1, (0, 0, 0))),),
                    (("none", (3, (1, 1, 1))),))

    def test_errors(self):
        wrong = [(InvalidTruth, BAD_TRUTHS), (InvalidFamily, BAD_FAMILIES_ON_THREE), (InvalidFraction, EDGES)]
        much = [((f, family, (1, 2)), TooMany, 2048) for f, family in too_many()]
        self.refuses(share_answer, [ONES, TWO, (1, 2)], wrong, much)
        self.refuses(is_share_answer, [ONES, TWO, (1, 2), None], wrong + [None])


class NotTrue(Case):
    """[4.5]."""

    def test_cores_need_not_be_lots(self):
        f, family, d, e = (1, 1), ((1, -1), (-1, 1)), (1, 2), (0, 1)
        self.assertEqual(core_answer(f, family, d, e)[0], "core")
        for numbers in product((0, 1), repeat=2):
            self.assertIs(is_core_answer(f, family, d, e, ("core", (1, numbers))), False)

    def test_margins_need_not_be_above_nought(self):
        mix = core_answer(ONES, ((1, 1, -1),), (1, 1), (0, 1))
        self.assertEqual(mix, ("mix", (1, (1,))))
        self.assertEqual(margins(ONES, ((1, 1, -1),), mix[1]), (1, (1, 1, -1)))

    def test_products_need_not_have_cores(self):
        family = ((1, 1),)
        self.assertEqual(core_answer((1, -1), family, (1, 1), (0, 1))[0], "core")
        self.assertEqual(core_answer((1, 1), family, (1, 1), (0, 1))[0], "mix")

    def test_deep_values_are_refused_everywhere(self):
        for judge, rest in ((is_core_answer, ((1, 2), (1, 2))), (is_edge_answer, ((1, 2),)),
                            (is_share_answer, ((1, 2),))):
            for value in (DEEP, ("core", DEEP), ("edge", (0, 1), DEEP, DEEP), ("share", (1, 2), (1, (1, 1, 1)), DEEP)):
                self.assertIs(judge(ONES, TWO, *rest, value), False)


if __name__ == "__main__":
    unittest.main()
