"""[10.1] to [10.6], and the seeds, bits and excesses of [0.11]."""

import random
import unittest
from fractions import Fraction
from itertools import product

from hardbits.errors import (InvalidAdvice, InvalidDesign, InvalidFraction, InvalidNumber, InvalidTruth, InvalidWord,
                             TooMany)
from hardbits.words.bits import (bits_answer, bits_excess, bits_of, drawn_bits, elder_tables, is_bits_answer,
                                 is_predictor, predicted, predictor_sum, predictors_number, rows_of)
from hardbits.words.designs import line_lots
from hardbits.words.draws import excess, made_bits, steps
from tests.support import BAD_FRACTIONS, BAD_NUMBERS, Case, DEEP, HUGE, JUNK, is_least
from tests.test_designs import BAD_DESIGNS
from tests.test_draws import BAD_TABLES, all_words, number_of
from tests.test_fractions import pair
from tests.test_truths import BAD_TRUTHS

ODD, EVENS, RING = (1, -1, -1, 1), (1, 0, 0, 1, 0, 1, 1, 0), ((0, 1), (1, 2), (0, 2))
BAD_LETTER_TRUTHS = tuple(value for value in BAD_TRUTHS if value != (1,) * 33) + (
    (1,), (1, 1, 1), (1,) * 33, (1,) * 63, (1,) * 128)
BAD_L = BAD_NUMBERS + (0, 1, 13)
BAD_TESTS = tuple(value for value in BAD_TABLES if value != (0, 1, 1, 0)) + (
    (0, 1, 1, 0), EVENS[:7], EVENS + (0,), EVENS[:7] + (True,), EVENS[:7] + (2,), list(EVENS))
SHARES = BAD_FRACTIONS + ((0, 1), (-1, 2), (3, 2), (2, 1))
DESIGNS = ((3, RING), (2, ((0, 1), (1, 0))), (3, ((0, 1), (0, 1))), (4, ((0, 1), (2, 3))),
           (4, ((3, 1), (0, 3), (1, 0), (2, 1))), (1, ((0,),)), (1, ((0,), (0,))), (3, ((2,), (0,), (2,))),
           (3, ((0, 1, 2),)), (4, ((3, 0, 2), (2, 1, 0))),
           (5, ((4, 0, 2), (3, 2, 4), (2, 0, 1))), (3, ((2, 1, 0), (0, 1, 2), (1, 0, 2))))


def some_tests(source, m, count):
    yield (0,) * 2 ** m
    yield (1,) * 2 ** m
    yield tuple(sum(word) % 2 for word in all_words(m))
    for _ in range(count):
        yield tuple(source.randint(0, 1) for _ in range(2 ** m))


def some_cases(seed, tests=2, truths=3):
    source = random.Random(seed)
    for l, design in DESIGNS:
        n, m = len(design[0]), len(design)
        for _ in range(truths):
            truth = tuple(source.choice((1, -1)) for _ in range(2 ** n))
            for test in some_tests(source, m, tests):
                yield truth, l, design, test


def bits_by_words(truth, design, seed):
    signs = [truth[number_of(tuple(seed[place] for place in lot))] for lot in design]
    return tuple(0 if sign == 1 else 1 for sign in signs)


def excess_by_words(truth, l, design, test):
    met = sum(test[number_of(bits_by_words(truth, design, seed))] for seed in all_words(l))
    return Fraction(met, 2 ** l) - Fraction(sum(test), 2 ** len(design))


def seed_with(l, lot, others, point):
    """The seed with the bits of the point at the places of the lot, and the others at all others, ascending."""
    seed, rest = [None] * l, list(others)
    for k, place in enumerate(lot):
        seed[place] = point >> k & 1
    return tuple(rest.pop(0) if bit is None else bit for bit in seed)


def row_by_words(truth, l, design, test, predictor):
    i, others, last, r = predictor
    row = []
    for point in range(2 ** len(design[0])):
        elder = bits_by_words(truth, design[:i], seed_with(l, design[i], others, point))
        bit = r if test[number_of(elder + (r,) + last)] == 1 else 1 - r
        row.append(1 if bit == 0 else -1)
    return tuple(row)


def sum_by_words(truth, l, design, test, predictor):
    return sum(a * b for a, b in zip(truth, row_by_words(truth, l, design, test, predictor)))


def predictors(l, design):
    for i in range(len(design)):
        for others in all_words(l - len(design[0])):
            for last in all_words(len(design) - i - 1):
                for r in (0, 1):
                    yield i, others, last, r


class Bits(Case):

    def test_bits(self):
        for truth, l, design, _ in some_cases(1, 0):
            counts = [0] * 2 ** len(design)
            for seed in all_words(l):
                bits = bits_by_words(truth, design, seed)
                self.assertEqual(bits_of(truth, l, design, seed), bits)
                counts[number_of(bits)] += 1
            told = drawn_bits(truth, l, design)
            self.assertTrue(is_least(told))
            self.assertEqual([Fraction(number, told[0]) for number in told[1]], [Fraction(k, 2 ** l) for k in counts])

    def test_sequence_of_places(self):
        self.assertEqual(bits_of((1, -1, 1, 1), 2, ((0, 1), (1, 0)), (1, 0)), (1, 0))
        self.assertEqual(bits_of((1, -1, 1, 1), 2, ((0, 1), (1, 0)), (0, 1)), (0, 1))

    def test_excesses(self):
        for truth, l, design, test in some_cases(2):
            told = bits_excess(truth, l, design, test)
            self.assertEqual(told, pair(excess_by_words(truth, l, design, test)))
            self.assertEqual(told, excess(len(design), drawn_bits(truth, l, design), test))

    def test_greatest_sizes(self):
        source = random.Random(3)
        truth = tuple(source.choice((1, -1)) for _ in range(64))
        design = tuple(tuple(source.sample(range(12), 6)) for _ in range(6))
        test = tuple(source.randint(0, 1) for _ in range(64))
        self.assertEqual(bits_excess(truth, 12, design, test), pair(excess_by_words(truth, 12, design, test)))
        self.assertEqual(bits_of((1, -1), 12, ((11,),) * 6, (0,) * 11 + (1,)), (1,) * 6)
        self.assertEqual(drawn_bits((1, -1), 1, ((0,),)), (2, (1, 1)))

    def test_errors(self):
        wrong = [(InvalidTruth, BAD_LETTER_TRUTHS), (InvalidNumber, BAD_L),
                 (InvalidDesign, BAD_DESIGNS + (((0,), (1,)), ((0, 1, 2),)))]
        bad = (None, 1, True, (), (0, 1), (0, 1, 1, 0), [0, 1, 1], (0, 1, 2), (0, 1, True), (0, 1, None), "011", DEEP,
               {},
               (0, 1, HUGE))
        self.refuses(bits_of, [ODD, 3, RING, (1, 0, 0)], wrong + [(InvalidWord, bad)])
        self.refuses(drawn_bits, [ODD, 3, RING], wrong)
        self.refuses(bits_excess, [ODD, 3, RING, EVENS], wrong + [(InvalidWord, BAD_TESTS)])
        # l is from n on.
        for n in range(1, 7):
            self.fails_for(InvalidNumber, n - 1, drawn_bits, (1,) * 2 ** n, n - 1, None)
            self.assertEqual(drawn_bits((1,) * 2 ** n, n, (tuple(range(n)),)), (1, (1, 0)))


class Tables(Case):

    def test_elder_bits_hang_on_common_places(self):
        for truth, l, design, _ in some_cases(4, 0, 2):
            for i, lot in enumerate(design):
                for others in all_words(l - len(lot)):
                    tables = elder_tables(truth, l, design, i, others)
                    self.assertEqual(len(tables), i)
                    for j, table in enumerate(tables):
                        self.check_table(truth, l, design, (i, j), others, table)

    def check_table(self, truth, l, design, indices, others, table):
        lot, elder = design[indices[0]], design[indices[1]]
        common = [place for place in lot if place in elder]
        self.assertEqual(len(table), 2 ** len(common))
        for point in range(2 ** len(lot)):
            seed = seed_with(l, lot, others, point)
            at = number_of([seed[place] for place in common])
            self.assertEqual(table[at], bits_by_words(truth, (elder,), seed)[0])

    def test_tables_told(self):
        # The common places are read in the sequence of tuple i.
        self.assertEqual(elder_tables((1, -1, 1, 1), 2, ((0, 1), (1, 0)), 1, ()), ((0, 0, 1, 0),))
        self.assertEqual(elder_tables((1, -1), 2, ((0,), (1,)), 1, (1,)), ((1,),))
        self.assertEqual(elder_tables((1, -1), 2, ((0,), (1,)), 0, (1,)), ())

    def test_errors(self):
        wrong = [(InvalidTruth, BAD_LETTER_TRUTHS), (InvalidNumber, BAD_L),
                 (InvalidDesign, BAD_DESIGNS + (((0,), (1,)),)), (InvalidNumber, BAD_NUMBERS + (3,))]
        bad = (None, 0, True, (), (0, 1), [0], (2,), (True,), (None,), ((0,),), "0", DEEP, {}, (HUGE,))
        self.refuses(elder_tables, [ODD, 3, RING, 2, (0,)], wrong + [(InvalidWord, bad)])
        self.refuses(elder_tables, [ODD, 3, RING, 0, (1,)], wrong + [(InvalidWord, bad)])


class Predictors(Case):

    def test_is_predictor(self):
        for l, design in DESIGNS:
            for value in predictors(l, design):
                self.assertIs(is_predictor(l, design, value), True)
        self.judged(is_predictor, (3, RING), ((2, (0,), (), 1), (0, (1,), (0, 1), 0), (1, (0,), (1,), 0)),
                    ((2, (0,), (1,), 1), (0, (1,), (0,), 0), (0, (1,), (0, 1, 0), 0), (3, (0,), (), 1),
                     (-1, (0,), (0, 0, 0), 1),
                     (2, (), (), 1), (2, (0, 0), (), 1), (2, (2,), (), 1), (2, (0,), (), 2), (2, (0,), ()),
                     (2, (0,), (), -1),
                     (HUGE, (0,), (), 1), (1, (0,), (2,), 0), (2, (HUGE,), (), 1)))
        self.judged(is_predictor, (2, ((0, 1),)), ((0, (), (), 0),), ((0, (0,), (), 0), (0, (), (0,), 0)))
        self.assertIs(is_predictor(12, (tuple(range(6)),), (0, (0,) * 6, (), 1)), True)
        self.refuses(is_predictor, [3, RING, None], [(InvalidNumber, BAD_NUMBERS + (0, 13)),
                                                     (InvalidDesign, BAD_DESIGNS), None])

    def test_rows_and_sums(self):
        for truth, l, design, test in some_cases(5, 1, 1):
            for predictor in predictors(l, design):
                self.assertEqual(predicted(truth, l, design, test, predictor),
                                 row_by_words(truth, l, design, test, predictor))
                self.assertEqual(predictor_sum(truth, l, design, test, predictor),
                                 sum_by_words(truth, l, design, test, predictor))

    def test_means_are_steps(self):
        for truth, l, design, test in some_cases(6, 1, 1):
            told = steps(len(design), drawn_bits(truth, l, design), test)
            for i, step in enumerate(told):
                found = [sum_by_words(truth, l, design, test, value) for value in predictors(l, design)
                         if value[0] == i]
                self.assertEqual(Fraction(sum(found), len(found)), 2 * len(truth) * Fraction(*step))

    def test_some_predictor_follows(self):
        for truth, l, design, test in some_cases(7, 2, 2):
            best = max(abs(predictor_sum(truth, l, design, test, value)) for value in predictors(l, design))
            self.assertGreaterEqual(best * len(design), 2 * len(truth) * abs(Fraction(*bits_excess(truth, l, design,
                                                                                                   test))))

    def test_tuples_apart(self):
        source = random.Random(8)
        for l, design in ((4, ((0, 1), (2, 3))), (6, ((1, 0), (5, 2), (4, 3))), (3, ((2,), (0,), (1,)))):
            for _ in range(8):
                truth = tuple(source.choice((1, -1)) for _ in range(2 ** len(design[0])))
                for test in some_tests(source, len(design), 3):
                    for row in rows_of(truth, l, design, test):
                        self.assertEqual(len(set(row)), 1)
                    bound = Fraction(len(design), 2 * len(truth)) * abs(sum(truth))
                    self.assertLessEqual(abs(Fraction(*bits_excess(truth, l, design, test))), bound)

    def test_a_tuple_twice(self):
        truth, alike = (1, -1, -1, 1), (1, 0, 0, 1)
        self.assertEqual(bits_excess(truth, 2, ((0, 1), (0, 1)), alike), (1, 2))
        self.assertEqual(bits_excess(truth, 2, ((0, 1), (1, 0)), alike), (1, 2))

    def test_errors(self):
        wrong = [(InvalidTruth, BAD_LETTER_TRUTHS), (InvalidNumber, BAD_L),
                 (InvalidDesign, BAD_DESIGNS + (((0,), (1,)),)),
                 (InvalidWord, BAD_TESTS)]
        bad = JUNK + ((2, (0,), (1,), 1), (2, (0,), (), 2), (2, (0,), (), True), (True, (0,), (1,), 0),
                      [2, (0,), (), 1],
                      (2, [0], (), 1), (3, (0,), (), 1), (2, (0, 0), (), 1))
        for call in (predicted, predictor_sum):
            self.refuses(call, [ODD, 3, RING, EVENS, (2, (0,), (), 1)], wrong + [(InvalidAdvice, bad)])


class Answers(Case):

    def is_right(self, truth, l, design, test, e, value):
        kind, told = value
        if kind == "within":
            number = excess_by_words(truth, l, design, test)
            return told == pair(number) and abs(number) <= len(design) * Fraction(*e) / 2
        return abs(sum_by_words(truth, l, design, test, told)) > Fraction(*e) * len(truth)

    def edges(self, truth, l, design, test):
        """Edges at, just below and just above what the excess is compared with, and others."""
        at = abs(excess_by_words(truth, l, design, test)) * 2 / len(design)
        found = {Fraction(1), Fraction(1, 999999999), Fraction(1, 4), at, at * Fraction(999, 1000),
                 at * Fraction(1001, 1000)}
        return [pair(e) for e in sorted(found) if 0 < e <= 1]

    def test_answers(self):
        for truth, l, design, test in some_cases(9):
            number = abs(excess_by_words(truth, l, design, test))
            for e in self.edges(truth, l, design, test):
                kind, told = answer = bits_answer(truth, l, design, test, e)
                self.assertEqual(kind, "within" if 2 * number <= len(design) * Fraction(*e) else "predictor")
                if kind == "predictor":
                    self.assertIn(told, list(predictors(l, design)))
                self.assertTrue(self.is_right(truth, l, design, test, e, answer))
                self.assertIs(is_bits_answer(truth, l, design, test, e, answer), True)

    def test_the_judge_takes_all_right_answers_and_no_others(self):
        for truth, l, design, test in some_cases(10, 1, 1):
            for e in self.edges(truth, l, design, test)[:3] + [(1, 2), (2, 3), (3, 4), (3, 5), (7, 8)]:
                number = excess_by_words(truth, l, design, test)
                near = [number, -number, number + Fraction(1, 64), Fraction(0), number / 2]
                for value in [("within", pair(other)) for other in near]:
                    self.assertIs(is_bits_answer(truth, l, design, test, e, value),
                                  self.is_right(truth, l, design, test, e, value))
                for predictor in predictors(l, design):
                    value = ("predictor", predictor)
                    self.assertIs(is_bits_answer(truth, l, design, test, e, value),
                                  self.is_right(truth, l, design, test, e, value))

    def test_answers_of_the_greatest_sizes(self):
        source = random.Random(11)
        for l, n, m in ((12, 1, 6), (12, 6, 6), (12, 3, 6), (6, 6, 6), (12, 6, 1), (1, 1, 1)):
            design = tuple(tuple(source.sample(range(l), n)) for _ in range(m))
            truth = tuple(source.choice((1, -1)) for _ in range(2 ** n))
            test = tuple(source.randint(0, 1) for _ in range(2 ** m))
            for e in ((1, 999999999), (1, 100), (1, 1)):
                answer = bits_answer(truth, l, design, test, e)
                self.assertTrue(self.is_right(truth, l, design, test, e, answer))
        self.assertEqual(bits_answer((1, 1), 1, ((0,),), (1, 0), (999999998, 999999999))[0], "predictor")

    def test_near_values(self):
        arguments = (ODD, 3, RING, EVENS)
        right = (("predictor", (2, (0,), (), 1)), ("predictor", (2, (1,), (), 0)))
        wrong = (("within", (1, 2)), ("predictor", (0, (0,), (0, 0), 0)), ("predictor", (2, (0,), (1,), 1)),
                 ("predictor", (2, (), (), 1)), ("predictor", (2, (0,), (), 1), 0), ("predictor", (2, (0,), (), 2)))
        self.judged(is_bits_answer, arguments + ((1, 4),), right, wrong)
        self.judged(is_bits_answer, arguments + ((1, 3),), right + (("within", (1, 2)),),
                    (("within", (2, 4)), ("within", (1, 3)), ("within", (-1, 2)), ("within", (0, 1)),
                     ("within", (1, 2), 0),
                     ("within", (HUGE, 2 * HUGE)), ("within", (HUGE, 2 * HUGE + 1)),
                     ("predictor", (0, (0,), (0, 0), 0))))
        # The sum is 4, and so not above e N for e of 1.
        self.judged(is_bits_answer, arguments + ((1, 1),), (("within", (1, 2)),), right)

    def test_errors(self):
        wrong = [(InvalidTruth, BAD_LETTER_TRUTHS), (InvalidNumber, BAD_L),
                 (InvalidDesign, BAD_DESIGNS + (((0,), (1,)),)),
                 (InvalidWord, BAD_TESTS), (InvalidFraction, SHARES)]
        self.refuses(bits_answer, [ODD, 3, RING, EVENS, (1, 1)], wrong)
        self.refuses(bits_answer, [ODD, 3, RING, EVENS, (1, 999999999)], wrong)
        self.refuses(is_bits_answer, [ODD, 3, RING, EVENS, (1, 2), None], wrong + [None])


class Numbers(Case):

    def test_predictors_number(self):
        for l, design in DESIGNS:
            self.assertEqual(predictors_number(len(design[0]), l, len(design)), len(list(predictors(l, design))))
        for n in range(1, 7):
            for l in range(n, 13):
                for m in range(1, 7):
                    self.assertEqual(predictors_number(n, l, m), 2 ** (l - n) * (2 ** (m + 1) - 2))
        wrong = [(InvalidNumber, BAD_NUMBERS + (0, 7)), (InvalidNumber, BAD_NUMBERS + (2, 13)),
                 (InvalidNumber, BAD_NUMBERS + (0, 7))]
        self.refuses(predictors_number, [3, 3, 1], wrong)
        self.refuses(predictors_number, [3, 12, 6], wrong)

    def test_rows(self):
        for truth, l, design, test in some_cases(12, 1, 1):
            wanted = {row_by_words(truth, l, design, test, value) for value in predictors(l, design)}
            self.assertEqual(rows_of(truth, l, design, test), tuple(sorted(wanted)))

    def test_most_predictors(self):
        # 2 ** 6 * 62 are let, and 2 ** 7 * 62, and 2 ** 6 * 126, are not.
        truth, five = (1, -1), ((0,), (1,), (2,), (3,), (4,))
        self.assertEqual(predictors_number(1, 7, 5), 3968)
        self.assertEqual(rows_of(truth, 7, five, (0, 1) * 16), ((-1, -1), (1, 1)))
        wrong = [(InvalidTruth, BAD_LETTER_TRUTHS), (InvalidNumber, BAD_NUMBERS + (0, 13)),
                 (InvalidDesign, BAD_DESIGNS + (((0, 1), (1, 0)),)), (InvalidWord,
                                                                      ((0, 1) * 8, (0, 1, True) * 8, (0, 1) * 31))]
        much = [((truth, 8, five, (0, 1) * 16), TooMany, 4096), ((truth, 12, ((0,),) * 6, (0, 1) * 32), TooMany, 4096)]
        self.refuses(rows_of, [truth, 7, five, (0, 1) * 16], wrong, much)
        self.assertEqual(predictors_number(1, 12, 1), 4096)
        self.assertEqual(rows_of(truth, 12, ((5,),), (1, 0)), ((1, 1),))

    def test_lines_as_designs(self):
        truth, design = (1, -1, -1, -1, 1, -1, 1, 1), line_lots(3, 3, 1, 4)
        test = tuple(1 if sum(word) % 2 else 0 for word in all_words(4))
        self.assertEqual(bits_excess(truth, 9, design, test), pair(excess_by_words(truth, 9, design, test)))


class NotTrue(Case):
    """[10.6]."""

    def test_predictors_can_follow_where_the_excess_is_within(self):
        self.assertEqual(bits_answer(ODD, 3, RING, EVENS, (1, 2)), ("within", (1, 2)))
        self.assertIs(is_bits_answer(ODD, 3, RING, EVENS, (1, 2), ("predictor", (2, (0,), (), 1))), True)

    def test_tests_with_one_excess_can_have_unlike_sums(self):
        truth, l, design = (1, -1), 1, ((0,), (0,))
        found = {}
        for test in product((0, 1), repeat=4):
            sums = sorted({predictor_sum(truth, l, design, test, value) for value in predictors(l, design)})
            found.setdefault(bits_excess(truth, l, design, test), set()).add(tuple(sums))
        self.assertTrue(any(len(sums) > 1 for sums in found.values()))

    def test_even_truths_can_have_an_excess(self):
        self.assertEqual(sum(ODD), 0)
        self.assertEqual(bits_excess(ODD, 3, RING, EVENS), (1, 2))

    def test_made_predictors_without_common_places(self):
        # Where no seed is told, the row is what the test makes of the next bit alone.
        for r in (0, 1):
            row = predicted((1, -1), 1, ((0,),), (0, 1), (0, (), (), r))
            bit = made_bits(1, (0, 1), 0, (), r)[0]
            self.assertEqual(row, (1 - 2 * bit,) * 2)


if __name__ == "__main__":
    unittest.main()
