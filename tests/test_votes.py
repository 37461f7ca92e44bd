"""[5.1] to [5.6]: votes, few tests and voices. What is told is worked out here by the words of the document."""

import random
import unittest
from fractions import Fraction
from itertools import combinations, combinations_with_replacement, product
from math import comb

from hardbits.core.cores import core_answer, least_edge
from hardbits.core.votes import fewest, is_vote_answer, margin, voices, vote_answer, vote_row, wrong_points
from hardbits.errors import InvalidFamily, InvalidFraction, InvalidMix, InvalidNumber, InvalidRow, InvalidTruth, TooMany
from tests.support import BAD_NUMBERS, BAD_ROWS, Case, DEEP, HUGE, LONG, is_least
from tests.test_cores import (BAD_FAMILIES_ON_THREE, BAD_MIXES, EDGES, SHARES, is_above, is_core, is_mix, least,
                              point_margins, shares_for, some_cases, too_many, values)
from tests.test_fractions import pair
from tests.test_truths import BAD_FAMILIES, BAD_TRUTHS, some_truths

ONES, TWO = (1, 1, 1), ((1, 1, -1), (1, -1, 1))
THREE = TWO + ((-1, 1, 1),)
ONES_OF_FOUR, FOUR = (1, 1, 1, 1), ((1, 1, 1, -1), (1, 1, -1, 1), (1, -1, 1, 1), (-1, 1, 1, 1))


def votes(family, mix):
    """At each point the weights of the tests with 1 there, less those of the others."""
    weights = values(mix)
    found = []
    for point in range(len(family[0])):
        ahead = sum(weight for weight, test in zip(weights, family) if test[point] == 1)
        found.append(ahead - sum(weight for weight, test in zip(weights, family) if test[point] != 1))
    return found


def wrong(truth, numbers):
    return tuple(point for point, number in enumerate(numbers) if truth[point] * number <= 0)


def is_vote(truth, family, d, mix):
    return is_mix(mix, len(family)) and len(wrong(truth, votes(family, mix))) < Fraction(*d) * len(truth)


def some_mixes(seed, count, many):
    source = random.Random(seed)
    for k in range(many):
        weights = [source.choice((0, 0, 1, 2, 7, source.randint(0, 999))) for _ in range(count)]
        weights[source.randrange(count)] += 1
        factor = (1, 3, LONG)[k % 3]
        yield (sum(weights) * factor, tuple(weight * factor for weight in weights))


class Votes(Case):

    def test_vote_rows(self):
        for truth, family in some_cases(1, 60):
            for mix in some_mixes(len(family), len(family), 6):
                row = vote_row(family, mix)
                self.assertEqual(values(row), votes(family, mix))
                self.assertTrue(is_least(row))
                self.assertEqual([sign * number for sign, number in zip(truth, values(row))],
                                 point_margins(truth, family, mix))
        self.assertEqual(vote_row(((1, -1), (-1, 1)), (2 * HUGE, (HUGE, HUGE))), (1, (0, 0)))
        self.assertEqual(vote_row(((1,) * 32,) * 256, (256, (1,) * 256)), (1, (1,) * 32))
        self.assertEqual(vote_row(((1,), (-1,)), (LONG, (LONG - 1, 1))), (LONG, (LONG - 2,)))

    def test_wrong_points_and_margins(self):
        source = random.Random(2)
        for truth in some_truths(3, 60, 5) + some_truths(4, 10, 1) + some_truths(5, 10, 32):
            row = (source.choice((1, 2, 6, LONG)), tuple(source.randint(-2, 2) for _ in truth))
            self.assertEqual(wrong_points(truth, row), wrong(truth, row[1]))
            self.assertEqual(margin(truth, row), pair(min(sign * number for sign, number in zip(truth, values(row)))))

    def test_ties_are_wrong(self):
        self.assertEqual(wrong_points((1, -1, 1, -1), (7, (0, 0, 0, 0))), (0, 1, 2, 3))
        self.assertEqual(wrong_points((1, -1, 1, -1), (7, (1, -1, 0, 1))), (2, 3))
        self.assertEqual(wrong_points((1, -1), (1, (HUGE, -LONG))), ())
        self.assertEqual(margin((1, -1), (1, (HUGE, -LONG))), (HUGE, 1))
        self.assertEqual(margin((1, -1), (4, (0, -2))), (0, 1))
        self.assertEqual(margin((1, -1, 1), (4, (2, 6, 2))), (-3, 2))

    def test_errors(self):
        families = BAD_FAMILIES + (((1,) * 33,),)
        self.refuses(vote_row, [TWO, (2, (1, 1))], [(InvalidFamily, families), (InvalidMix, BAD_MIXES)])
        rows = BAD_ROWS + ((1, (1, 1)), (1, (1, 1, 1, 1)), (0, (1, 1, 1)), (1, [1, 1, 1]), (1, (1, 1, True)), DEEP)
        for call in (wrong_points, margin):
            self.refuses(call, [ONES, (2, (1, -5, 0))], [(InvalidTruth, BAD_TRUTHS), (InvalidRow, rows)])


class CoresOrVotes(Case):

    def test_answers(self):
        kinds = set()
        for truth, family in some_cases(10, 60):
            for d in shares_for(len(truth)):
                kind, told = answer = vote_answer(truth, family, d)
                kinds.add(kind)
                self.assertEqual(kind, "core" if least_edge(truth, family, d)[0] <= 0 else "vote")
                if kind == "core":
                    self.assertTrue(is_core(truth, family, d, (0, 1), told))
                else:
                    self.assertTrue(is_vote(truth, family, d, told))
                self.assertIs(is_vote_answer(truth, family, d, answer), True)
        self.assertEqual(kinds, {"core", "vote"})

    def test_few_points_are_wrong(self):
        for truth, family in some_cases(11, 40):
            for d in shares_for(len(truth)):
                for e in ((0, 1), (1, 5), (1, 2)):
                    kind, told = core_answer(truth, family, d, e)
                    if kind == "mix":
                        row = vote_row(family, told)
                        self.assertLess(len(wrong_points(truth, row)), Fraction(*d) * len(truth))
                        if Fraction(*d) * len(truth) <= 1:
                            self.assertEqual(wrong_points(truth, row), ())
                            self.assertGreater(Fraction(*margin(truth, row)), Fraction(*e))

    def test_the_judge_by_the_words(self):
        for truth, family in ((ONES, TWO), (ONES, THREE), ((1, -1, 1), TWO), ((1, -1), ((1, -1), (1, 1), (1, 1)))):
            for d in ((1, 1), (2, 3), (1, 2), (1, 3), (5, 6), (1, 6), (334, 1000 - 1)):
                for numbers in product(range(4), repeat=len(truth)):
                    value = (3, numbers)
                    self.assertIs(is_vote_answer(truth, family, d, ("core", value)),
                                  is_core(truth, family, d, (0, 1), value))
                for numbers in product(range(4), repeat=len(family)):
                    value = (3, numbers)
                    self.assertIs(is_vote_answer(truth, family, d, ("vote", value)), is_vote(truth, family, d, value))

    def test_near_values(self):
        # Both are there: a core, and a vote that is wrong at one point only.
        right = (("core", (1, (1, 0, 1))), ("core", (2 * LONG, (2 * LONG, 0, 2 * LONG))), ("core", (2, (1, 1, 2))),
                 ("vote", (1, (1,))), ("vote", (LONG, (LONG,))))
        bad = (("core", (1, (1, 1, 0))), ("core", (1, (1, 1, 1))), ("core", (1, (1, 0, 1, 0))), ("core", (1, (2, 0, 0))),
               ("core", (LONG, (LONG, 1, LONG - 1))), ("vote", (1, (1, 0))), ("vote", (2, (1,))), ("mix", (1, (1,))),
               ("core", (1, (1, 0, 1)), 0), ("vote", (1, (1,)), 0), ("core",), ("vote",))
        self.judged(is_vote_answer, (ONES, ((1, 1, -1),), (2, 3)), right, bad)
        # Just d N wrong points are too many.
        self.judged(is_vote_answer, (ONES, ((1, 1, -1),), (1, 3)), (("core", (1, (0, 0, 1))),), (("vote", (1, (1,))),))
        right = (("vote", (2, (1, 1))), ("vote", (2 * LONG, (LONG + 1, LONG - 1))), ("vote", (1, (1, 0))))
        self.judged(is_vote_answer, (ONES, TWO, (1, 1)), right, (("vote", (2, (1, 2))), ("vote", (2, (3, -1)))))
        # A tie is wrong: at both other points the mix has 0.
        tie, aside = ("vote", (2, (1, 1))), ("vote", (2 * LONG, (LONG + 1, LONG - 1)))
        self.judged(is_vote_answer, (ONES, TWO, (2, 3)), (aside, ("core", (1, (0, 1, 1)))), (tie,))

    def test_limits(self):
        for truth, family in too_many():
            self.fails_for(TooMany, 2048, vote_answer, truth, family, (1, 2))
            mix = (len(family), (1,) * len(family))
            self.assertIs(is_vote_answer(truth, family, (1, 2), ("vote", mix)), True)
            self.assertIs(is_vote_answer(truth, family, (1, 2), ("core", (2, truth))), False)
        truth, family = (1,) * 32, ((1,) * 32,) * 64
        self.assertEqual(vote_answer(truth, family, (1, 1))[0], "vote")

    def test_errors(self):
        bad = [(InvalidTruth, BAD_TRUTHS), (InvalidFamily, BAD_FAMILIES_ON_THREE), (InvalidFraction, SHARES)]
        much = [((truth, family, (1, 2)), TooMany, 2048) for truth, family in too_many()]
        self.refuses(vote_answer, [ONES, TWO, (1, 2)], bad, much)
        self.refuses(is_vote_answer, [ONES, TWO, (1, 2), None], bad + [None])


def fewest_by_words(truth, family, d, e):
    """The first of the shortest lots of tests that alone have no core for e."""
    for length in range(1, len(family) + 1):
        for lot in combinations(range(len(family)), length):
            if Fraction(*least_edge(truth, tuple(family[k] for k in lot), d)) > Fraction(*e):
                return lot
    return None


def edges_near(truth, family, d):
    """Edges at, just below and just above the least edge, and others."""
    at = Fraction(*least_edge(truth, family, d))
    found = {Fraction(0), Fraction(1, 7), Fraction(1), at, at * Fraction(99, 100), at / 2, at * Fraction(101, 100)}
    return [pair(e) for e in sorted(found) if 0 <= e <= 1 and e.denominator < 10 ** 9]


class Fewest(Case):

    def test_fewest(self):
        lengths = set()
        for truth, family in list(some_cases(20, 40)) + [(ONES_OF_FOUR, FOUR), (ONES, THREE)]:
            for d in shares_for(len(truth)):
                for e in edges_near(truth, family, d):
                    found = fewest(truth, family, d, e)
                    self.assertEqual(found, fewest_by_words(truth, family, d, e), (truth, family, d, e))
                    if found is not None:
                        lengths.add(len(found))
                        self.assertLessEqual(len(found), len(truth))
                        chosen = tuple(family[k] for k in found)
                        kind, told = core_answer(truth, chosen, d, e)
                        self.assertEqual(kind, "mix")
                        whole = [0] * len(family)
                        for k, weight in zip(found, told[1]):
                            whole[k] = weight
                        self.assertTrue(is_above(truth, family, d, e, (told[0], tuple(whole))))
        # Of two tests one alone goes as far as any mix: with values of 1 and -1 two are never the fewest.
        self.assertLessEqual({1, 3, 4}, lengths)
        self.assertNotIn(2, lengths)

    def test_some_mix_needs_no_more_tests_than_points(self):
        for truth, family in some_cases(21, 60, 3):
            for d in shares_for(len(truth)):
                found = fewest(truth, family, d, (0, 1))
                self.assertEqual(found is None, core_answer(truth, family, d, (0, 1))[0] == "core")
                self.assertTrue(found is None or len(found) <= len(truth))

    def test_ten_tests_of_many_points(self):
        # Test k is off at the points that leave k as rest modulo 10: only all together are above e.
        truth = (1,) * 30
        family = tuple(tuple(-1 if point % 10 == k else 1 for point in range(30)) for k in range(10))
        self.assertEqual(fewest(truth, family, (1, 30), (0, 1)), (0, 1, 2))
        self.assertEqual(fewest(truth, family, (1, 30), (1, 3)), (0, 1, 2, 3))
        self.assertEqual(fewest(truth, family, (1, 30), (39999999, 50000000)), tuple(range(10)))
        self.assertIsNone(fewest(truth, family, (1, 30), (4, 5)))
        self.assertEqual(fewest(truth, family, (1, 30), (7, 9)), tuple(range(10)))
        self.assertEqual(fewest(truth, family, (1, 30), (77, 100)), tuple(range(9)))
        source = random.Random(22)
        for _ in range(6):
            truth = tuple(source.choice((1, -1)) for _ in range(8))
            family = tuple(tuple(sign if source.random() < 0.7 else -sign for sign in truth) for _ in range(8))
            for d in ((1, 8), (1, 2), (1, 1)):
                for e in edges_near(truth, family, d)[:4]:
                    self.assertEqual(fewest(truth, family, d, e), fewest_by_words(truth, family, d, e))

    def test_first_in_sequence(self):
        self.assertEqual(fewest(ONES, ((-1, 1, 1),) + TWO + ((1, 1, -1),), (1, 3), (0, 1)), (0, 1, 2))
        self.assertEqual(fewest(ONES, ((-1,) * 3, ONES, ONES), (1, 1), (1, 2)), (1,))
        # Of one test alone the least edge is its own, and at it no mix is above.
        self.assertIsNone(fewest((1,), ((1,),), (1, 1), (1, 1)))
        self.assertEqual(fewest((1,), ((1,),), (1, 1), (999999998, 999999999)), (0,))
        self.assertIsNone(fewest(ONES, ((1, 1, -1),), (1, 1), (1, 3)))
        self.assertIsNone(fewest(ONES, ((1, 1, -1),), (1, 1), (333333334, 999999999)))
        self.assertEqual(fewest(ONES, ((1, 1, -1),), (1, 1), (333333332, 999999999)), (0,))

    def test_errors(self):
        bad = [(InvalidTruth, BAD_TRUTHS), (InvalidFamily, BAD_FAMILIES_ON_THREE), (InvalidFraction, SHARES),
               (InvalidFraction, EDGES)]
        much = [((ONES, (TWO * 6)[:count], (1, 2), (1, 2)), TooMany, 10) for count in (11, 12)]
        much.append((((1,) * 32, ((1,) * 32,) * 256, (1, 1), (0, 1)), TooMany, 10))
        self.refuses(fewest, [ONES, TWO, (1, 2), (1, 2)], bad, much)
        self.refuses(fewest, [ONES, TWO * 5, (1, 2), (1, 2)], bad)


def are_above(truth, family, d, e, lot):
    """Whether the voices are above e, by the words of [5.5]."""
    size = Fraction(*d) * len(truth)
    numbers = [sign * sum(family[k][point] for k in lot) for point, sign in enumerate(truth)]
    return least(numbers, size) > Fraction(*e) * len(lot) * size


def voices_by_words(truth, family, d, e, r):
    for lot in combinations_with_replacement(range(len(family)), r):
        if are_above(truth, family, d, e, lot):
            return lot
    return None


class Voices(Case):

    def test_voices(self):
        found_some = 0
        for truth, family in list(some_cases(30, 25)) + [(ONES_OF_FOUR, FOUR), (ONES, THREE)]:
            for d in shares_for(len(truth)):
                for r in (1, 2, 3, 4):
                    for e in ((0, 1), (1, 5), (1, 2), (1, 1)):
                        if comb(len(family) + r - 1, r) <= 3000:
                            found = voices(truth, family, d, e, r)
                            self.assertEqual(found, voices_by_words(truth, family, d, e, r))
                            if found is not None:
                                found_some += len(set(found)) > 1
                                mix = (r, tuple(found.count(k) for k in range(len(family))))
                                self.assertTrue(is_above(truth, family, d, e, mix))
        self.assertGreater(found_some, 20)

    def test_most_voices(self):
        for r in range(1, 9):
            self.assertEqual(voices(ONES, (ONES, (-1,) * 3), (1, 3), (1, 2), r), (0,) * r)
            self.assertEqual(voices(ONES, ((-1,) * 3, ONES), (1, 3), (999999998, 999999999), r), (1,) * r)
            self.assertIsNone(voices(ONES, (ONES,), (1, 3), (1, 1), r))
            found = voices(ONES, THREE, (1, 3), (0, 1), r)
            self.assertEqual(found, voices_by_words(ONES, THREE, (1, 3), (0, 1), r))
        self.assertEqual(voices(ONES, THREE, (1, 3), (0, 1), 8), (0, 0, 0, 1, 1, 1, 2, 2))

    def test_most_tuples(self):
        source = random.Random(31)
        truth = (1, 1, 1, 1)
        for count, r in ((256, 1), (76, 2), (25, 3), (14, 4), (10, 5), (8, 6), (7, 7), (6, 8)):
            family = tuple(tuple(source.choice((1, -1, -1)) for _ in truth) for _ in range(count - 1)) + (truth,)
            self.assertLessEqual(comb(count + r - 1, r), 3000)
            self.assertEqual(voices(truth, family, (1, 4), (1, 2), r), voices_by_words(truth, family, (1, 4), (1, 2), r))

    def test_errors(self):
        bad = [(InvalidTruth, BAD_TRUTHS), (InvalidFamily, BAD_FAMILIES_ON_THREE), (InvalidFraction, SHARES),
               (InvalidFraction, EDGES), (InvalidNumber, BAD_NUMBERS + (0, 9))]
        much = [((ONES, ((1, -1, 1),) * count, (1, 2), (1, 2), r), TooMany, 3000)
                for count, r in ((77, 2), (26, 3), (15, 4), (11, 5), (9, 6), (8, 7), (7, 8), (256, 8), (256, 2))]
        self.refuses(voices, [ONES, TWO, (1, 2), (1, 2), 1], bad, much)
        self.refuses(voices, [ONES, TWO, (1, 1), (1, 1), 8], bad)
        self.refuses(voices, [ONES, TWO, (1, 1), (0, 1), 8], bad)


class NotTrue(Case):
    """[5.6]."""

    def test_a_mix_can_be_wrong_at_fewer_points_where_a_core_is(self):
        self.assertEqual(vote_answer(ONES, ((1, 1, -1),), (2, 3))[0], "core")
        self.assertIs(is_vote_answer(ONES, ((1, 1, -1),), (2, 3), ("vote", (1, (1,)))), True)

    def test_one_voice_more_can_be_too_many(self):
        self.assertEqual(voices(ONES, THREE, (1, 3), (0, 1), 3), (0, 1, 2))
        self.assertIsNone(voices(ONES, THREE, (1, 3), (0, 1), 4))

    def test_more_tests_can_have_a_greater_least_sum(self):
        self.assertEqual(fewest(ONES_OF_FOUR, FOUR, (3, 4), (0, 1)), (0,))
        one = least(point_margins(ONES_OF_FOUR, FOUR, (1, (1, 0, 0, 0))), Fraction(3))
        self.assertGreater(least(point_margins(ONES_OF_FOUR, FOUR, (4, (1, 1, 1, 1))), Fraction(3)), one)


if __name__ == "__main__":
    unittest.main()
