"""[0.14] and [14.1] to [14.5]: from bits back to a truth. What is told is worked out by the words of the document."""

import random
import unittest
from fractions import Fraction
from itertools import product

from hardbits.copies.chain import (chain_answer, chain_bound, chain_excess, chain_lines, chain_vote, is_chain_answer)
from hardbits.copies.copies import copies, lines
from hardbits.core.votes import vote_row, wrong_points
from hardbits.errors import InvalidAdvice, InvalidDesign, InvalidFraction, InvalidMix, InvalidNumber, InvalidTruth, InvalidWord
from hardbits.words.bits import bits_excess, is_predictor, predicted
from tests.support import BAD_FRACTIONS, BAD_NUMBERS, Case, DEEP, HUGE, JUNK, LONG
from tests.test_bits import excess_by_words, predictors, row_by_words, some_tests
from tests.test_copies import bound_by_words, copies_by_words, lines_by_words
from tests.test_cores import EDGES, SHARES, is_above
from tests.test_fractions import pair
from tests.test_truths import BAD_TRUTHS
from tests.test_votes import BAD_MIXES, some_mixes, votes, wrong

SAME, EQUAL, ROAD = ((0, 1), (0, 1)), (1, 0, 0, 1), (1, (), (), 0)
BAD_CHAIN_TRUTHS = BAD_TRUTHS + ((1,), (1, 1, 1), (1,) * 5, (1,) * 16, (1,) * 32, (1, 0), (1, True))
BAD_K = BAD_NUMBERS + (0, 4)
BAD_L = BAD_NUMBERS + (0, 13)
# Wrong designs of tuples of two places below 2.
BAD_PAIRS = (None, 1, True, (), ((),), (0, 1), [(0, 1)], ([0, 1],), ((0, 0),), ((0, 2),), ((-1, 0),), ((0, True),),
             ((0, 1), (0,)), ((0,), (1,)), ((0,),), ((0, 1),) * 7, ((0, 1), None), ((0, 1, 2),), "design", DEEP, {})
# Wrong tests of two bits.
BAD_PAIR_TESTS = (None, 1, True, (), (0, 1), (0, 1, 1), (0, 1, 1, 0, 1), (0, 1) * 4, [0, 1, 1, 0], (0, 1, 1, 2),
                  (0, 1, 1, True), (0, 1, 1, None), "0110", DEEP, {}, HUGE)
BAD_PREDICTORS = JUNK + ((1, (), (), 2), (1, (0,), (), 0), (1, (), (0,), 0), (2, (), (), 0), (-1, (), (), 0),
                         (0, (), (), 0), (1, (), ()), (True, (), (), 0), (1, (), (), True), [1, (), (), 0], (1, [], (), 0))
# Truths' letters, k, l, and designs of tuples of as many places.
DESIGNS = ((1, 1, 1, ((0,),)), (1, 1, 1, ((0,), (0,))), (1, 2, 2, SAME), (1, 2, 3, ((0, 1), (1, 2), (2, 0))), (1, 3, 3, ((0, 1, 2), (2, 0, 1))),
           (2, 1, 2, SAME), (2, 1, 3, ((0, 1), (1, 2), (0, 2))), (2, 2, 4, ((0, 1, 2, 3), (3, 1, 2, 0))), (3, 1, 3, ((0, 1, 2), (1, 0, 2))),
           (1, 2, 4, ((0, 1), (2, 3))), (3, 1, 5, ((0, 1, 2), (2, 3, 4))), (2, 1, 2, ((0, 1),) * 3))


def some_cases(seed, truths=2, tests=2, designs=DESIGNS):
    source = random.Random(seed)
    for n, k, l, design in designs:
        for _ in range(truths):
            truth = tuple(source.choice((1, -1)) for _ in range(2 ** n))
            for test in some_tests(source, len(design), tests):
                yield truth, k, l, design, test


def chain_excess_by_words(truth, k, l, design, test):
    return excess_by_words(copies_by_words((truth,) * k), l, design, test)


def chain_lines_by_words(truth, k, l, design, test, predictor):
    row = row_by_words(copies_by_words((truth,) * k), l, design, test, predictor)
    return lines_by_words(len(truth), k, row)


def chain_bound_by_words(m, k, d, e):
    return Fraction(m, 2) * bound_by_words(d, e, k)


def is_right(truth, k, l, design, test, d, e, value):
    """Whether the value, of the right form, is right by the words."""
    if value[0] == "within":
        number = chain_excess_by_words(truth, k, l, design, test)
        return value[1] == pair(number) and abs(number) <= chain_bound_by_words(len(design), k, d, e)
    return is_above(truth, chain_lines_by_words(truth, k, l, design, test, value[1]), d, e, value[2])


class Excesses(Case):

    def test_bounds(self):
        for m in range(1, 7):
            for k in (1, 2, 3):
                for d in ((1, 1), (1, 2), (1, 999999999), (2, 3)):
                    for e in ((0, 1), (1, 1), (1, 4), (999999998, 999999999)):
                        self.assertEqual(chain_bound(m, k, d, e), pair(chain_bound_by_words(m, k, d, e)))
        bad = [(InvalidNumber, BAD_NUMBERS + (0, 7)), (InvalidNumber, BAD_K), (InvalidFraction, SHARES), (InvalidFraction, EDGES)]
        self.refuses(chain_bound, [2, 2, (1, 2), (1, 4)], bad)
        self.refuses(chain_bound, [6, 3, (1, 1), (0, 1)], bad)
        self.refuses(chain_bound, [1, 1, (1, 1), (1, 1)], bad)

    def test_excesses(self):
        for truth, k, l, design, test in some_cases(1, 3, 3):
            told = chain_excess(truth, k, l, design, test)
            self.assertEqual(told, pair(chain_excess_by_words(truth, k, l, design, test)))
            self.assertEqual(told, bits_excess(copies((truth,) * k), l, design, test))

    def test_sequence_of_places(self):
        # The first place of a tuple is bit 0 of the point's number, which tells the last one of the copies.
        truth, design = (1, 1, 1, -1), ((0, 1, 2, 3), (2, 3, 0, 1))
        for test in ((1, 0, 0, 1), (0, 1, 0, 0)):
            self.assertEqual(chain_excess(truth, 2, 4, design, test), pair(chain_excess_by_words(truth, 2, 4, design, test)))

    def test_greatest_sizes(self):
        source = random.Random(2)
        for n, k in ((3, 2), (2, 3), (1, 3), (3, 1)):
            design = tuple(tuple(source.sample(range(12), n * k)) for _ in range(6))
            truth = tuple(source.choice((1, -1)) for _ in range(2 ** n))
            test = tuple(source.randint(0, 1) for _ in range(64))
            self.assertEqual(chain_excess(truth, k, 12, design, test), pair(chain_excess_by_words(truth, k, 12, design, test)))
            for d, e in (((1, 1), (0, 1)), ((1, 1), (1, 999999999)), ((1, 2), (1, 3))):
                answer = chain_answer(truth, k, 12, design, test, d, e)
                self.assertTrue(is_right(truth, k, 12, design, test, d, e, answer))
                self.assertIs(is_chain_answer(truth, k, 12, design, test, d, e, answer), True)

    def test_errors(self):
        bad = [(InvalidTruth, BAD_CHAIN_TRUTHS), (InvalidNumber, BAD_K), (InvalidNumber, BAD_L), (InvalidDesign, BAD_PAIRS),
               (InvalidWord, BAD_PAIR_TESTS)]
        self.refuses(chain_excess, [(1, -1), 2, 2, SAME, EQUAL], bad)
        self.refuses(chain_excess, [(1, -1, 1, 1), 1, 2, SAME, EQUAL], bad)
        # Tuples of other numbers of places; nine places are in no design.
        for truth, k, l, design in (((1, -1), 1, 2, SAME), ((1, -1), 3, 2, SAME), ((1, -1, 1, 1), 2, 2, SAME), ((1,) * 8, 1, 2, SAME),
                                    ((1,) * 8, 3, 12, (tuple(range(9)),)), ((1,) * 8, 3, 12, (tuple(range(6)),)), ((1, 1), 2, 1, SAME)):
            self.fails(InvalidDesign, chain_excess, truth, k, l, design, EQUAL)


class LinesAndVotes(Case):

    def test_lines(self):
        for truth, k, l, design, test in some_cases(10, 1, 1):
            N = len(truth)
            for predictor in list(predictors(l, design))[::3]:
                told = chain_lines(truth, k, l, design, test, predictor)
                self.assertEqual(told, chain_lines_by_words(truth, k, l, design, test, predictor))
                self.assertEqual(told, lines(N, k, predicted(copies((truth,) * k), l, design, test, predictor)))
                self.assertLessEqual(len(told), min(2 ** N, 2 * k * N ** (k - 1)))
                self.assertEqual({tuple(-sign for sign in line) for line in told}, set(told))

    def test_votes(self):
        for truth, k, l, design, test in some_cases(11, 1, 1):
            for predictor in list(predictors(l, design))[::5]:
                family = chain_lines(truth, k, l, design, test, predictor)
                for mix in some_mixes(len(family), len(family), 3):
                    row, points = chain_vote(truth, k, l, design, test, predictor, mix)
                    self.assertEqual([Fraction(number, row[0]) for number in row[1]], votes(family, mix))
                    self.assertEqual(points, wrong(truth, votes(family, mix)))
                    self.assertEqual((row, points), (vote_row(family, mix), wrong_points(truth, row)))

    def test_errors(self):
        bad = [(InvalidTruth, BAD_CHAIN_TRUTHS), (InvalidNumber, BAD_K), (InvalidNumber, BAD_L), (InvalidDesign, BAD_PAIRS),
               (InvalidWord, BAD_PAIR_TESTS), (InvalidAdvice, BAD_PREDICTORS)]
        self.refuses(chain_lines, [(1, -1), 2, 2, SAME, EQUAL, ROAD], bad)
        mixes = BAD_MIXES + ((3, (1, 2, 0)), (3, (1, 1)), (LONG, (LONG, 1)))
        self.refuses(chain_vote, [(1, -1), 2, 2, SAME, EQUAL, ROAD, (3, (1, 2))], bad + [(InvalidMix, mixes)])
        self.refuses(chain_vote, [(1, -1), 2, 2, SAME, EQUAL, ROAD, (LONG, (0, LONG))], bad + [(InvalidMix, mixes)])


class Answers(Case):

    def sizes(self, truth, k, l, design, test):
        """Shares and edges whose chain bound is just the excess, a little below or above it, and others."""
        yield from (((1, 1), (0, 1)), ((1, 2), (1, 3)), ((1, 999999999), (0, 1)), ((1, 1), (1, 1)), ((2, 3), (1, 9)))
        at = 2 * abs(chain_excess_by_words(truth, k, l, design, test)) / len(design)
        for factor in (1, Fraction(999, 1000), Fraction(1001, 1000)):
            if 0 < at * factor <= 1:
                # With d of 1 the bound is that of e alone.
                yield (1, 1), pair(at * factor)
                off = Fraction(1, 4) ** k
                if off < at * factor:
                    yield (3, 4), pair((at * factor - off) / (1 - off))

    def test_at_least_one_of_both(self):
        kinds = {"within": 0, "mix": 0}
        for truth, k, l, design, test in some_cases(20, 3, 4):
            number = abs(chain_excess_by_words(truth, k, l, design, test))
            for d, e in self.sizes(truth, k, l, design, test):
                answer = chain_answer(truth, k, l, design, test, d, e)
                kinds[answer[0]] += 1
                self.assertEqual(answer[0], "within" if number <= chain_bound_by_words(len(design), k, d, e) else "mix")
                self.assertTrue(is_right(truth, k, l, design, test, d, e, answer))
                self.assertIs(is_chain_answer(truth, k, l, design, test, d, e, answer), True)
                if answer[0] == "mix":
                    self.assertIs(is_predictor(l, design, answer[1]), True)
                    points = chain_vote(truth, k, l, design, test, answer[1], answer[2])[1]
                    self.assertLess(len(points), Fraction(*d) * len(truth))
        self.assertGreater(min(kinds.values()), 100)

    def test_the_judge_takes_all_right_answers_and_no_others(self):
        designs = (DESIGNS[0], DESIGNS[1], DESIGNS[2], (2, 1, 2, SAME))
        for truth, k, l, design, test in some_cases(21, 2, 1, designs):
            number = chain_excess_by_words(truth, k, l, design, test)
            for d, e in (((1, 1), (0, 1)), ((1, 1), (1, 4)), ((1, 2), (1, 2)), ((1, 1), (1, 1))):
                arguments = (truth, k, l, design, test, d, e)
                for other in (number, -number, number / 2, Fraction(1, 2), Fraction(0)):
                    value = ("within", pair(other))
                    self.assertIs(is_chain_answer(*arguments, value), is_right(*arguments, value))
                for predictor in predictors(l, design):
                    family = chain_lines_by_words(truth, k, l, design, test, predictor)
                    for numbers in product(range(3), repeat=len(family)):
                        value = ("mix", predictor, (2, numbers))
                        self.assertIs(is_chain_answer(*arguments, value), is_right(*arguments, value))

    def test_near_values(self):
        arguments = ((1, -1), 2, 2, SAME, EQUAL)
        right = (("mix", ROAD, (1, (0, 1))), ("mix", ROAD, (3, (1, 2))), ("mix", ROAD, (3 * LONG, (LONG, 2 * LONG))))
        near = (("mix", ROAD, (1, (1, 0))), ("mix", ROAD, (2, (1, 1))), ("mix", ROAD, (8, (3, 5))), ("mix", ROAD, (3, (1, 1))),
                ("mix", ROAD, (1, (0, 1, 0))), ("mix", ROAD, (1, (-1, 2))), ("mix", (0, (), (0,), 0), (1, (0, 1))),
                ("mix", (1, (), (), 2), (1, (0, 1))), ("mix", (1, (0,), (), 0), (1, (0, 1))), ("mix", ROAD), ("mix", (1, (0, 1))),
                ("mix", ROAD, (1, (0, 1)), 0), ("core", ROAD, (1, (0, 1))), ("mix", DEEP, (1, (0, 1))), ("mix", ROAD, DEEP))
        within = (("within", (1, 2)),)
        bad = (("within", (2, 4)), ("within", (1, 3)), ("within", (-1, 2)), ("within", (HUGE, 2 * HUGE)), ("within", (1, 2), 0), ("within",))
        self.judged(is_chain_answer, arguments + ((1, 1), (1, 4)), right, near + within + bad)
        # Just at the chain bound the excess is within; the mix (1, 2) has a least sum of 2 / 3, which is not above e d N of 1.
        self.judged(is_chain_answer, arguments + ((1, 1), (1, 2)), right[:1] + within, near + right[1:] + bad)
        self.judged(is_chain_answer, arguments + ((1, 1), (499999999, 999999999)), right[:1], near + right[1:] + within + bad)
        self.judged(is_chain_answer, arguments + ((1, 1), (1, 1)), within, near + right + bad)

    def test_errors(self):
        bad = [(InvalidTruth, BAD_CHAIN_TRUTHS), (InvalidNumber, BAD_K), (InvalidNumber, BAD_L), (InvalidDesign, BAD_PAIRS),
               (InvalidWord, BAD_PAIR_TESTS), (InvalidFraction, SHARES), (InvalidFraction, EDGES)]
        self.refuses(chain_answer, [(1, -1), 2, 2, SAME, EQUAL, (1, 2), (1, 2)], bad)
        self.refuses(chain_answer, [(1, -1, 1, 1), 1, 2, SAME, EQUAL, (1, 1), (0, 1)], bad)
        self.refuses(is_chain_answer, [(1, -1), 2, 2, SAME, EQUAL, (1, 1), (1, 1), None], bad + [None])


class NotTrue(Case):
    """[14.5]."""

    def test_a_mix_can_be_there_where_the_excess_is_within(self):
        arguments = ((1, -1), 2, 2, SAME, EQUAL, (1, 1), (1, 2))
        self.assertEqual(chain_answer(*arguments), ("within", (1, 2)))
        self.assertIs(is_chain_answer(*arguments, ("mix", ROAD, (1, (0, 1)))), True)

    def test_rows_with_the_sum_0_can_have_lines_that_follow(self):
        truth, design, predictor = (1, -1), ((0, 1), (1, 2)), (1, (0,), (), 1)
        row = predicted(copies((truth, truth)), 3, design, EQUAL, predictor)
        self.assertEqual(row, (1, -1, 1, -1))
        self.assertEqual(sum(a * b for a, b in zip(copies((truth, truth)), row)), 0)
        self.assertEqual(chain_lines(truth, 2, 3, design, EQUAL, predictor), ((-1, -1), (-1, 1), (1, -1), (1, 1)))
        mix = ("mix", predictor, (1, (0, 0, 1, 0)))
        self.assertIs(is_chain_answer(truth, 2, 3, design, EQUAL, (1, 1), (1, 2), mix), True)


if __name__ == "__main__":
    unittest.main()
