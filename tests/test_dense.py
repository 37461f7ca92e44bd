"""[17.1] to [17.5]: dense models. What is told is worked out here by the words of the document."""

import random
import unittest
from fractions import Fraction
from itertools import product

from hardbits.core.cores import least_edge
from hardbits.errors import InvalidDraw, InvalidFamily, InvalidFraction, InvalidMix, InvalidOperation, TooMany
from hardbits.near.dense import (dense_answer, difference, is_dense_answer, is_nearness_answer, is_part, level_of,
                                 nearness_answer, signed_row)
from tests.support import BAD_ROWS, Case, DEEP, HUGE, LONG, is_least
from tests.test_cores import BAD_FAMILIES_ON_THREE, EDGES, SHARES, is_measure, is_mix, shares_for, values
from tests.test_fractions import pair
from tests.test_truths import BAD_FAMILIES, some_truths
from tests.test_votes import some_mixes

LONE, PAIR = (1, (1, 0, 0, 0)), (2, (1, 1, 0, 0))
SIDES, EVEN = ((1, 1, -1, -1), (1, -1, 1, -1)), (2, (1, 1, 0, 0))
FIRST, TWO = (1, (1, 0, 0)), ((1, 1, -1), (1, -1, 1))
# Wrong draws on three points, such as are wrong whatever their number of points is, and wrong signed mixes of two tests.
BAD_ANY_DRAWS = BAD_ROWS + ((1, (1, 1)), (2, (1, 0)), (1, (2, -1)), (1, (0, 0)), (33, (1,) * 33), (LONG, (LONG, LONG)))
BAD_DRAWS = BAD_ANY_DRAWS + ((1, (1,)), (1, (1, 0)), (1, (1, 0, 0, 0)))
BAD_SIGNED = BAD_ROWS + ((1, (1,)), (1, (1, 0)), (1, (1, 0, 0)), (1, (1, 0, 0, 0, 0)), (1, (1, 1, 0, 0)), (2, (1, 0, 0, 0)),
                         (1, (2, -1, 0, 0)), (1, (0, 0, 0, 0)), (LONG, (LONG, 1, 0, 0)))


def opposites(family):
    return tuple(tuple(-sign for sign in test) for test in family)


def row_by_words(family, mix):
    """The sum of the tests and their opposites, each as often as told, at each point."""
    return [sum(weight * test[x] for weight, test in zip(values(mix), family + opposites(family))) for x in range(len(family[0]))]


def greatest(numbers, size):
    """The greatest sum of the numbers with weights from 0 to 1 that add up to the size."""
    total = Fraction(0)
    for number in sorted(numbers, reverse=True):
        part = min(Fraction(1), size)
        total += part * number
        size -= part
    return total


def difference_by_words(draw, family, d, mix):
    row, size = row_by_words(family, mix), Fraction(*d) * len(draw[1])
    return sum(weight * number for weight, number in zip(values(draw), row)) - greatest(row, size) / size


def is_model(draw, family, d, e, w):
    if not is_measure(w, len(draw[1]), d):
        return False
    size = Fraction(*d) * len(draw[1])
    for test in family:
        ours, theirs = sum(a * b for a, b in zip(values(w), test)) / size, sum(a * b for a, b in zip(values(draw), test))
        if abs(ours - theirs) > Fraction(*e):
            return False
    return True


def is_signed_above(draw, family, d, e, mix):
    return is_mix(mix, 2 * len(family)) and difference_by_words(draw, family, d, mix) > Fraction(*e)


def some_draws(source, points):
    """Draws of one point alone, even ones, and drawn ones, also in long terms."""
    yield (1, (0,) * (points - 1) + (1,))
    yield (points, (1,) * points)
    for factor in (1, 6, LONG):
        weights = [source.choice((0, 0, 1, 2, 5, source.randint(0, 99))) for _ in range(points)]
        weights[source.randrange(points)] += 1
        yield (sum(weights) * factor, tuple(weight * factor for weight in weights))


def some_families(source, points, count=3):
    """Families, also with a test twice, with a test and its opposite, and of one even test."""
    yield ((1,) * points,)
    for k in range(count):
        tests = some_truths(source.randrange(10 ** 6), source.randint(1, 5), points)
        tests += tests[:1] if k % 3 == 0 else []
        tests += [tuple(-sign for sign in tests[0])] if k % 3 == 1 else []
        yield tuple(tests)


def some_cases(seed, count=2, sizes=(1, 2, 3, 4, 6)):
    source = random.Random(seed)
    for points in sizes:
        for family in some_families(source, points, count):
            for draw in some_draws(source, points):
                yield draw, family


class SignedRows(Case):

    def test_rows_and_differences(self):
        for draw, family in some_cases(1):
            for mix in some_mixes(len(family), 2 * len(family), 3):
                row = signed_row(family, mix)
                self.assertEqual(values(row), row_by_words(family, mix))
                self.assertTrue(is_least(row))
                for d in shares_for(len(draw[1]))[::3] + [(1, 999999999)]:
                    self.assertEqual(difference(draw, family, d, mix), pair(difference_by_words(draw, family, d, mix)))

    def test_a_test_and_its_opposite(self):
        # Together they come to nothing, and differ by nothing.
        self.assertEqual(signed_row(TWO, (2, (1, 0, 1, 0))), (1, (0, 0, 0)))
        self.assertEqual(difference(FIRST, TWO, (1, 2), (2 * LONG, (LONG, 0, LONG, 0))), (0, 1))
        self.assertEqual(signed_row(TWO, (4, (2, 0, 1, 1))), (2, (0, 1, -1)))
        self.assertEqual(signed_row(((1,),), (1, (0, 1))), (1, (-1,)))
        self.assertEqual(signed_row(((1,) * 32,) * 256, (512, (1,) * 512)), (1, (0,) * 32))

    def test_errors(self):
        mixes = (InvalidMix, BAD_SIGNED)
        self.refuses(signed_row, [TWO, EVEN], [(InvalidFamily, BAD_FAMILIES + (((1,) * 33,),)), mixes])
        bad = [(InvalidDraw, BAD_DRAWS), (InvalidFamily, BAD_FAMILIES_ON_THREE), (InvalidFraction, SHARES), mixes]
        self.refuses(difference, [FIRST, TWO, (1, 1), EVEN], [(InvalidDraw, BAD_ANY_DRAWS)] + bad[1:])
        self.refuses(difference, [(3 * LONG, (LONG,) * 3), TWO, (1, 999999999), (LONG, (0, 0, 0, LONG))], [(InvalidDraw, BAD_ANY_DRAWS)] + bad[1:])
        self.fails(InvalidFamily, difference, (1, (1, 0)), TWO, (1, 1), EVEN)


class Models(Case):

    def edges(self, v):
        """Edges just at the nearness, a little above and below, and others."""
        found = {Fraction(0), Fraction(1), Fraction(1, 7), v, v * Fraction(999, 1000), v * Fraction(1001, 1000)}
        return [pair(e) for e in sorted(found) if 0 <= e <= 1 and e.denominator < 10 ** 9]

    def test_just_one(self):
        kinds = {"model": 0, "mix": 0}
        for draw, family in some_cases(10):
            for d in shares_for(len(draw[1]))[::2] + [(1, 999999999)]:
                _, v, w, mix = nearness_answer(draw, family, d)
                for e in self.edges(Fraction(*v)):
                    kind, told = answer = dense_answer(draw, family, d, e)
                    kinds[kind] += 1
                    self.assertEqual(kind, "model" if Fraction(*v) <= Fraction(*e) else "mix")
                    self.assertTrue((is_model if kind == "model" else is_signed_above)(draw, family, d, e, told))
                    self.assertIs(is_dense_answer(draw, family, d, e, answer), True)
                    # Never both: what shows the nearness is a model just for e from it on, a mix for e below it.
                    self.assertIs(is_dense_answer(draw, family, d, e, ("model", w)), kind == "model")
                    self.assertIs(is_dense_answer(draw, family, d, e, ("mix", mix)), kind == "mix")
        self.assertGreater(min(kinds.values()), 100)

    def test_nearness(self):
        for draw, family in some_cases(11):
            points = len(draw[1])
            for d in shares_for(points):
                _, v, w, mix = answer = nearness_answer(draw, family, d)
                self.assertEqual(answer[0], "near")
                self.assertTrue(is_model(draw, family, d, v, w))
                self.assertTrue(is_mix(mix, 2 * len(family)))
                # No model is nearer, as the mix has this difference: so it is the nearness.
                self.assertEqual(pair(difference_by_words(draw, family, d, mix)), v)
                self.assertIs(is_nearness_answer(draw, family, d, answer), True)
                self.assertTrue(0 <= Fraction(*v) <= 2)
                if max(values(draw)) <= 1 / (Fraction(*d) * points):
                    self.assertEqual(v, (0, 1))

    def test_draws_that_are_models_themselves(self):
        # Where a draw is nowhere above 1 / (d N), it is a model for 0 itself, times d N.
        draw = (4, (2, 1, 1, 0))
        for d, w in (((1, 2), (4, (4, 2, 2, 0))), ((1, 4), (4, (2, 1, 1, 0))), ((1, 8), (8, (2, 1, 1, 0)))):
            for family in (SIDES, ((1, 1, 1, 1),), SIDES + opposites(SIDES)):
                self.assertIs(is_dense_answer(draw, family, d, (0, 1), ("model", w)), True)
                self.assertEqual(nearness_answer(draw, family, d)[1], (0, 1))
                self.assertEqual(dense_answer(draw, family, d, (0, 1))[0], "model")
        self.assertNotEqual(nearness_answer(draw, SIDES, (2, 3))[1], (0, 1))
        self.assertEqual(nearness_answer((4, (1, 1, 1, 1)), SIDES, (1, 1))[1], (0, 1))

    def test_how_nearness_goes(self):
        for draw, family in some_cases(12):
            shares = sorted(shares_for(len(draw[1])), key=lambda d: Fraction(*d))
            found = [Fraction(*nearness_answer(draw, family, d)[1]) for d in shares]
            self.assertEqual(found, sorted(found))
            for d, v in zip(shares, found):
                for less in {family[1:], family[:1], family[:-1]} - {()}:
                    self.assertLessEqual(Fraction(*nearness_answer(draw, less, d)[1]), v)

    def test_by_corners(self):
        # For two points all measures of a share lie between two: the nearness is found by going through their line.
        for p in range(0, 7):
            draw, family = (6, (p, 6 - p)), ((1, -1),)
            for d in ((1, 1), (3, 4), (1, 2), (2, 3), (1, 5)):
                size = 2 * Fraction(*d)
                lowest, highest = max(Fraction(0), size - 1), min(Fraction(1), size)
                theirs = Fraction(2 * p - 6, 6)
                nearest = min(max(theirs, (2 * lowest - size) / size), (2 * highest - size) / size)
                self.assertEqual(nearness_answer(draw, family, d)[1], pair(abs(theirs - nearest)))

    def test_two_is_reached(self):
        # All measures of the share 1 are even.
        draw, family = (1, (0,) * 31 + (1,)), ((1,) * 31 + (-1,),)
        self.assertEqual(nearness_answer(draw, family, (1, 1))[1], pair(Fraction(2) - Fraction(2, 32)))
        self.assertEqual(nearness_answer(draw, family, (1, 32))[1], (0, 1))
        self.assertEqual(dense_answer(draw, family, (1, 1), (1, 1))[0], "mix")
        self.assertEqual(nearness_answer((1, (1,)), ((1,),), (1, 999999999))[1], (0, 1))

    def test_even_draws_and_edges_of_stage_4(self):
        # With the tests' products with a truth as tests, a draw with the sum 0 for each of them is as near as a core.
        draw = (2, (1, 0, 0, 1, 0, 0))
        for family in (((1, 1, 1, -1, 1, -1),), ((1, 1, -1, -1, 1, 1), (1, -1, 1, -1, 1, 1))):
            for d in ((1, 1), (5, 6), (2, 3), (1, 2), (1, 9)):
                v = least_edge((1,) * 6, family + opposites(family), d)
                self.assertEqual(nearness_answer(draw, family, d)[1], v)

    def test_greatest_sizes(self):
        source = random.Random(15)
        for points, tests in ((32, 32), (4, 256), (8, 128), (1, 256), (31, 33)):
            family = tuple(some_truths(points, tests, points))
            for factor in (1, HUGE):
                weights = [source.randint(0, 9) * factor + source.randint(0, 9) for _ in range(points - 1)] + [1]
                draw = (sum(weights), tuple(weights))
                for d in ((1, 2), (999999998, 999999999)):
                    _, v, w, mix = answer = nearness_answer(draw, family, d)
                    self.assertTrue(is_model(draw, family, d, v, w))
                    self.assertEqual(pair(difference_by_words(draw, family, d, mix)), v)
                    self.assertIs(is_nearness_answer(draw, family, d, answer), True)

    def test_long_draws(self):
        source = random.Random(16)
        family = tuple(some_truths(17, 12, 12))
        weights = [source.randint(0, 9) * LONG + source.randint(0, 9) for _ in range(12)]
        _, v, w, mix = answer = nearness_answer((sum(weights), tuple(weights)), family, (999999998, 999999999))
        self.assertTrue(is_model((sum(weights), tuple(weights)), family, (999999998, 999999999), v, w))
        self.assertIs(is_nearness_answer((sum(weights), tuple(weights)), family, (999999998, 999999999), answer), True)

    def test_limits(self):
        for points, tests in ((32, 32), (4, 256), (8, 128), (1, 256)):
            draw, family = (points, (1,) * points), tuple(some_truths(points, tests, points))
            self.assertEqual(dense_answer(draw, family, (1, 2), (0, 1))[0], "model")
        for points, tests in ((32, 33), (31, 34), (5, 205), (8, 129)):
            draw, family = (points, (1,) * points), tuple(some_truths(points, tests, points))
            self.fails_for(TooMany, 2048, dense_answer, draw, family, (1, 2), (0, 1))
            self.fails_for(TooMany, 2048, nearness_answer, draw, family, (1, 2))
            # The judges have no limit.
            self.assertIs(is_dense_answer(draw, family, (1, 1), (0, 1), ("model", (1, (1,) * points))), True)
            mix = (1, (1,) + (0,) * (2 * tests - 1))
            self.assertIs(is_nearness_answer(draw, family, (1, 1), ("near", (0, 1), (1, (1,) * points), mix)), True)

    def test_errors(self):
        bad = [(InvalidDraw, BAD_ANY_DRAWS), (InvalidFamily, BAD_FAMILIES_ON_THREE), (InvalidFraction, SHARES), (InvalidFraction, EDGES)]
        many = [(32, (1,) * 32), tuple(some_truths(1, 33, 32)), (1, 1)]
        self.refuses(dense_answer, [FIRST, TWO, (1, 2), (1, 1)], bad, [(many + [(0, 1)], TooMany, 2048)])
        self.refuses(dense_answer, [(3 * LONG, (LONG,) * 3), TWO, (1, 1), (0, 1)], bad)
        self.refuses(nearness_answer, [FIRST, TWO, (1, 2)], bad[:3], [(many, TooMany, 2048)])
        self.refuses(is_dense_answer, [FIRST, TWO, (1, 2), (1, 1), None], bad + [None])
        self.refuses(is_nearness_answer, [FIRST, TWO, (1, 2), None], bad[:3] + [None])
        self.fails(InvalidFamily, dense_answer, (1, (1, 0)), TWO, (1, 1), (0, 1))


class Judges(Case):

    def test_the_judge_takes_all_right_answers_and_no_others(self):
        source = random.Random(20)
        for points in (2, 3):
            for family in some_families(source, points, 2):
                family = family[:2]
                for draw in some_draws(source, points):
                    for d, e in (((1, 1), (1, 4)), ((2, 3), (1, 3)), ((1, 2), (0, 1)), ((1, 3), (1, 2))):
                        for numbers in product(range(4), repeat=points):
                            w = (3, numbers)
                            self.assertIs(is_dense_answer(draw, family, d, e, ("model", w)), is_model(draw, family, d, e, w))
                        for numbers in product(range(3), repeat=2 * len(family)):
                            mix = (2, numbers)
                            self.assertIs(is_dense_answer(draw, family, d, e, ("mix", mix)), is_signed_above(draw, family, d, e, mix))

    def test_near_values(self):
        arguments = (LONE, SIDES, (1, 2))
        models = (("model", (2, (2, 1, 1, 0))), ("model", (2 * LONG, (2 * LONG, LONG, LONG, 0))))
        mixes = (("mix", EVEN), ("mix", (4, (2, 2, 0, 0))), ("mix", (2 * LONG, (LONG, LONG, 0, 0))), ("mix", (2 * HUGE, (HUGE, HUGE, 0, 0))))
        bad = (("model", (2, (2, 1, 0, 1))), ("model", (2, (2, 2, 1, 0))), ("model", (1, (2, 0, 0, 0))), ("model", (1, (1, 1, 0))), ("model",),
               ("model", (2, (2, 1, 1, 0)), 0), ("mix", (2, (1, 1, 0))), ("mix", (2, (1, 1, 0, 0, 0))), ("mix", (2, (2, 1, -1, 0))), ("mix", (1, (0, 0, 1, 0))),
               ("mix", (2, (0, 0, 1, 1))), ("core", (2, (2, 1, 1, 0))), ("model", DEEP), ("mix", DEEP), ("model", EVEN + (0,)))
        self.judged(is_dense_answer, arguments + ((1, 2),), models, bad + mixes)
        self.judged(is_dense_answer, arguments + ((499999999, 999999999),), mixes, bad + models)
        # With e of 1 any difference is too small.
        self.judged(is_dense_answer, arguments + ((1, 1),), models + (("model", (1, (1, 0, 0, 1))), ("model", (1, (1, 1, 0, 0)))), bad[1:] + mixes)
        right = [("near", (1, 2), w[1], mix[1]) for w in models for mix in mixes]
        near = (("near", (2, 4), models[0][1], EVEN), ("near", (1, 3), models[0][1], EVEN), ("near", (2, 3), models[0][1], EVEN),
                ("near", (1, 2), (2, (2, 1, 0, 1)), EVEN), ("near", (1, 2), models[0][1], (2, (1, 0, 0, 1))), ("near", (1, 2), models[0][1], (3, (2, 1, 1, 0))),
                ("near", (1, 2), models[0][1]), ("near", (1, 2), models[0][1], EVEN, 0), ("edge", (1, 2), models[0][1], EVEN), ("near", DEEP, DEEP, DEEP),
                ("near", (HUGE, 2 * HUGE), models[0][1], EVEN), ("near", (1, 2), EVEN, models[0][1]))
        self.judged(is_nearness_answer, arguments, right, near)


class Parts(Case):

    def test_is_part(self):
        for draw, other in self.some_pairs(30):
            top = min([Fraction(told, other[0]) / Fraction(number, draw[0]) for number, told in zip(draw[1], other[1]) if number] + [Fraction(1)])
            for d in {top, top * Fraction(99, 100), top * Fraction(101, 100), Fraction(1), Fraction(1, 10 ** 9 - 1)}:
                if 0 < d <= 1 and d.denominator < 10 ** 9:
                    wanted = all(d * a <= b for a, b in zip(values(draw), values(other)))
                    self.assertIs(is_part(draw, other, pair(d)), wanted)
                    self.assertEqual(wanted, d <= top)

    def some_pairs(self, seed):
        source = random.Random(seed)
        for points in (1, 2, 3, 5):
            draws = list(some_draws(source, points))
            yield from ((draw, other) for draw in draws for other in draws)

    def test_just_at_the_share(self):
        # d q is exactly r at a point.
        self.assertIs(is_part(LONE, PAIR, (1, 2)), True)
        self.assertIs(is_part(LONE, PAIR, (500000000, 999999999)), False)
        self.assertIs(is_part((LONG, (LONG, 0, 0, 0)), (2 * LONG, (LONG, LONG, 0, 0)), (1, 2)), True)
        self.assertIs(is_part(PAIR, PAIR, (1, 1)), True)
        self.assertIs(is_part(PAIR, LONE, (1, 999999999)), False)

    def test_parts_and_levels(self):
        found = 0
        for draw, family in some_cases(31, 4, (2, 3, 4, 6)):
            points = len(draw[1])
            for d in ((1, 1), (5, 6), (2, 3), (1, 2), (1, 3)):
                even = (1 - Fraction(*d)) / points
                other = [Fraction(*d) * weight + even for weight in values(draw)]
                bottom = 1
                for weight in other:
                    bottom *= weight.denominator
                other = (bottom, tuple(int(weight * bottom) for weight in other))
                for mix in [nearness_answer(draw, family, d)[3]] + list(some_mixes(points, 2 * len(family), 2)):
                    number = difference_by_words(draw, family, d, mix)
                    if number <= 0:
                        self.fails(InvalidOperation, level_of, draw, other, family, d, mix)
                        continue
                    found += 1
                    row = row_by_words(family, mix)
                    least = Fraction(*d) * number / (max(row) - min(row))
                    parted = {s: sum(weight for weight, g in zip(values(other), row) if g >= s) - Fraction(sum(g >= s for g in row), points) for s in row}
                    told = level_of(draw, other, family, d, mix)
                    self.assertEqual(told, pair(min(s for s in row if parted[s] >= least)))
                    self.assertGreaterEqual(parted[Fraction(*told)], Fraction(*d) * number / 2)
                    # So at least one of both: a model of the share for e, or a level that parts by more than d e / 2.
                    e = number * Fraction(9, 10)
                    self.assertGreater(parted[Fraction(*told)], Fraction(*d) * e / 2)
        self.assertGreater(found, 100)

    def test_levels_that_have_just_the_bound(self):
        # The test has two values: the step between them carries the whole difference, d E / 2, and no more.
        draw, family, mix = (1, (1, 0)), ((1, -1),), (1, (1, 0))
        self.assertEqual(difference(draw, family, (1, 1), mix), (1, 1))
        self.assertEqual(level_of(draw, draw, family, (1, 1), mix), (1, 1))
        other = (4, (3, 1))
        self.assertEqual(difference(draw, family, (3, 4), mix), (2, 3))
        # r(g at least 1) is 3 / 4, the share of the points 1 / 2: apart by 1 / 4, just 3 / 4 times 2 / 3 divided by 2.
        self.assertEqual(level_of(draw, other, family, (3, 4), mix), (1, 1))

    def test_levels_that_are_passed(self):
        # Below the level returned the bound is not reached: at the least value all points count, and nothing is parted.
        draw, family, mix = (1, (1, 0, 0, 0)), ((1, 1, -1, -1), (1, -1, 1, -1)), (4, (3, 1, 0, 0))
        row = row_by_words(family, mix)
        self.assertEqual(row, [1, Fraction(1, 2), Fraction(-1, 2), -1])
        self.assertEqual(difference(draw, family, (1, 4), mix), (0, 1))
        self.fails(InvalidOperation, level_of, draw, draw, family, (1, 4), mix)
        # At -1 / 2 they are apart by 1 / 4, at 1 / 2 by 1 / 2, which is just the bound for the share 1.
        self.assertEqual(level_of(draw, draw, family, (1, 1), mix), (1, 2))
        self.assertEqual(level_of(draw, draw, family, (1, 2), mix), (-1, 2))

    def test_alike_values(self):
        # Where all values of g are alike, no measure is told from another one.
        for mix in ((2, (1, 0, 1, 0)), (1, (0, 1, 0, 0)), (1, (0, 0, 0, 1))):
            family = ((1, -1, 1), (1, 1, 1))
            self.assertEqual(difference(FIRST, family, (1, 1), mix), (0, 1))
            self.fails(InvalidOperation, level_of, FIRST, FIRST, family, (1, 1), mix)

    def test_errors(self):
        shares = (InvalidFraction, SHARES)
        self.refuses(is_part, [FIRST, FIRST, (1, 1)], [(InvalidDraw, BAD_ANY_DRAWS), (InvalidDraw, BAD_DRAWS), shares])
        bad = [(InvalidDraw, BAD_ANY_DRAWS), (InvalidDraw, BAD_DRAWS), (InvalidFamily, BAD_FAMILIES_ON_THREE), shares, (InvalidMix, BAD_SIGNED)]
        then = [([(1, (0, 0, 1)), FIRST, TWO, (1, 1), EVEN], InvalidOperation, None),
                ([FIRST, FIRST, TWO, (1, 1), (1, (0, 0, 1, 0))], InvalidOperation, None),
                ([FIRST, (2, (1, 1, 0)), TWO, (2, 3), EVEN], InvalidOperation, None)]
        self.refuses(level_of, [FIRST, FIRST, TWO, (1, 1), EVEN], bad, then)
        self.refuses(level_of, [FIRST, (2 * LONG, (LONG, LONG, 0)), TWO, (1, 2), EVEN], bad, then)
        self.fails(InvalidDraw, level_of, (1, (1, 0)), FIRST, TWO, (1, 1), EVEN)


class NotTrue(Case):
    """[17.5]."""

    def test_not_each_draw_has_a_model_for_0(self):
        self.assertEqual(dense_answer(LONE, SIDES, (1, 2), (0, 1))[0], "mix")

    def test_models_need_not_be_0_where_the_whole_is(self):
        # LONE is a part of PAIR for 1 / 2, and this model of it has a weight at point 2, where PAIR has none.
        self.assertIs(is_part(LONE, PAIR, (1, 2)), True)
        self.assertIs(is_dense_answer(LONE, SIDES, (1, 2), (1, 2), ("model", (2, (2, 1, 1, 0)))), True)

    def test_a_model_and_a_level_can_both_be(self):
        e = (1, 2)
        self.assertEqual(dense_answer(LONE, SIDES, (1, 2), e)[0], "model")
        level = level_of(LONE, PAIR, SIDES, (1, 2), EVEN)
        row = row_by_words(SIDES, EVEN)
        apart = sum(w for w, g in zip(values(PAIR), row) if g >= Fraction(*level)) - Fraction(sum(g >= Fraction(*level) for g in row), 4)
        self.assertGreater(apart, Fraction(1, 8))


if __name__ == "__main__":
    unittest.main()
