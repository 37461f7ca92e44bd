"""[0.13] and [11.1] to [11.6]: strings that are led back. What is told is worked out by the words of the document."""

import random
import unittest
from fractions import Fraction
from itertools import product

from hardbits.errors import InvalidAdvice, InvalidDesign, InvalidFraction, InvalidNumber, InvalidWord
from hardbits.linear.linear import linear_truth
from hardbits.words.bits import bits_excess, elder_tables, predicted
from hardbits.words.strings import (advised_list, advised_row, advices_number, is_advice, is_string_answer, led_back,
                                    not_within, string_answer, string_excess)
from tests.support import BAD_FRACTIONS, BAD_NUMBERS, Case, DEEP, HUGE, JUNK, LONG
from tests.test_bits import BAD_TESTS, predictors, some_tests
from tests.test_designs import BAD_DESIGNS, common
from tests.test_draws import all_words, number_of
from tests.test_fractions import pair
from tests.test_linear import BAD_STRINGS, sign

EVENS, RING, ADVICE = (1, 0, 0, 1, 0, 1, 1, 0), ((0, 1), (1, 2), (0, 2)), (2, ((0, 1), (0, 1)), (), 1, 0)
BAD_L = BAD_NUMBERS + (0, 13)
SIX = ((0, 1, 2, 3, 4, 5),)
SHARES = BAD_FRACTIONS + ((0, 1), (-1, 2), (3, 2), (2, 1))
# Designs whose advices are few enough to go through all.
DESIGNS = ((1, ((0,),)), (1, ((0,), (0,))), (2, ((0,), (1,))), (2, ((0, 1), (1, 0))), (3, ((0, 1), (1, 2))), (3, RING),
           (4, ((0, 1), (2, 3))), (3, ((2,), (0,), (2,))), (3, ((0, 1, 2),)), (4, ((3, 0, 2), (2, 1, 0))),
           (6, ((0, 1, 2), (5, 4, 3), (0, 5, 1))), (5, ((4, 3, 2, 1, 0),)), (4, ((1, 0), (2, 3), (0, 3))))
# Others, also with many advices.
WIDE = DESIGNS + ((2, ((0, 1),) * 3), (5, ((4, 0, 2), (3, 2, 4), (2, 0, 1))), (3, ((2, 1, 0), (0, 1, 2), (1, 0, 2))),
                  (4, ((0, 1, 2, 3), (3, 2, 1, 0))), (6, ((0, 1, 2, 3, 4), (5, 4, 3, 2, 1))),
                  (4, ((0, 1), (1, 2), (2, 3), (3, 0))), (6, ((0,), (1,), (2,), (3,), (4,), (5,))))


def dot(x, a):
    return sum(one * other for one, other in zip(x, a))


def excess_by_words(l, design, test, string):
    """The chance over all seeds, the bits being sums of places, less that over all words."""
    met = 0
    for seed in all_words(l):
        met += test[number_of([dot([seed[place] for place in places], string) % 2 for places in design])]
    return Fraction(met, 2 ** l) - Fraction(sum(test), 2 ** len(design))


def row_by_words(design, test, advice):
    """The row by the words of [11.1]."""
    i, tables, last, r, _ = advice
    row = []
    for x in all_words(len(design[0])):
        elder = []
        for j, table in enumerate(tables):
            read = [bit for bit, place in zip(x, design[i]) if place in design[j]]
            elder.append(table[number_of(read)])
        bit = r if test[number_of(tuple(elder) + (r,) + last)] == 1 else 1 - r
        row.append(1 if bit == 0 else -1)
    return tuple(row)


def list_by_words(design, test, e, advice):
    row, words = row_by_words(design, test, advice), all_words(len(design[0]))
    found = []
    for a in words:
        number = sum(value * sign(x, a) for x, value in zip(words, row))
        if abs(number) > Fraction(*e) * len(row):
            found.append(a)
    return tuple(sorted(found))


def led_by_words(design, test, e, advice):
    found = list_by_words(design, test, e, advice)
    return found[advice[4]] if advice[4] < len(found) else None


def headless(design):
    """All (i, tables, last, r) of the advices."""
    for i in range(len(design)):
        sizes = [2 ** common(design[i], design[j]) for j in range(i)]
        for tables in product(*[all_words(size) for size in sizes]):
            for last in all_words(len(design) - i - 1):
                for r in (0, 1):
                    yield i, tables, last, r


def is_right(l, design, test, e, string, value):
    """Whether the value, of the right form, is right by the words."""
    if value[0] == "advice":
        return led_by_words(design, test, e, value[1]) == string
    number = excess_by_words(l, design, test, string)
    return value[1] == pair(number) and 2 * abs(number) <= len(design) * Fraction(*e)


def some_cases(seed, count=2, designs=WIDE):
    source = random.Random(seed)
    for l, design in designs:
        for test in some_tests(source, len(design), count):
            yield l, design, test


def edges(l, design, test, string):
    """Edges at, just below and just above what the excess is compared with, and others."""
    at = abs(excess_by_words(l, design, test, string)) * 2 / len(design)
    found = {Fraction(1), Fraction(1, 999999999), Fraction(1, 4), at, at * Fraction(999, 1000), at * Fraction(1001, 1000)}
    return [pair(e) for e in sorted(found) if 0 < e <= 1]


class Excesses(Case):

    def test_excesses(self):
        for l, design, test in some_cases(1, 3):
            for string in all_words(len(design[0])):
                told = string_excess(l, design, test, string)
                self.assertEqual(told, pair(excess_by_words(l, design, test, string)))
                self.assertEqual(told, bits_excess(linear_truth(string), l, design, test))

    def test_tests_that_meet_all_or_nothing(self):
        for l, design in WIDE:
            for bit in (0, 1):
                test = (bit,) * 2 ** len(design)
                for string in all_words(len(design[0])):
                    self.assertEqual(string_excess(l, design, test, string), (0, 1))
                self.assertEqual(not_within(l, design, test, (1, 999999999)), ())

    def test_greatest_sizes(self):
        source = random.Random(2)
        for n in (1, 3, 5):
            design = tuple(tuple(source.sample(range(12), n)) for _ in range(6))
            test = tuple(source.randint(0, 1) for _ in range(64))
            string = tuple(source.randint(0, 1) for _ in range(n))
            self.assertEqual(string_excess(12, design, test, string), pair(excess_by_words(12, design, test, string)))

    def test_errors(self):
        bad = [(InvalidNumber, BAD_L), (InvalidDesign, BAD_DESIGNS), (InvalidWord, BAD_TESTS),
               (InvalidWord, BAD_STRINGS)]
        self.refuses(string_excess, [3, RING, EVENS, (1, 1)], bad)
        self.fails(InvalidDesign, string_excess, 6, SIX, (0, 1), (0,) * 6)
        self.fails(InvalidDesign, string_excess, 12, SIX, None, None)
        self.assertEqual(string_excess(5, ((0, 1, 2, 3, 4),), (0, 1), (0,) * 5), (-1, 2))


class Advices(Case):

    def test_is_advice(self):
        for l, design in DESIGNS:
            for head in list(headless(design))[:200]:
                for index in (0, 1, 31):
                    self.assertIs(is_advice(l, design, head + (index,)), True)
                for index in (-1, 32, True, None, HUGE, "0", (0,)):
                    self.assertIs(is_advice(l, design, head + (index,)), False)
        right = (ADVICE, (0, (), (0, 1), 0, 31), (1, ((0, 1),), (1,), 1, 5), (2, ((1, 1), (0, 0)), (), 0, 30))
        wrong = ((2, ((0, 1),), (), 1, 0), (2, ((0, 1), (0, 1)), (0,), 1, 0), (2, ((0, 1), (0, 1, 0, 1)), (), 1, 0),
                 (2, ((0, 1), (0,)), (), 1, 0), (2, ((0, 2), (0, 1)), (), 1, 0), (2, ((0, 1), (0, 1)), (), 2, 0),
                 (3, ((0, 1), (0, 1)), (), 1, 0), (-1, (), (0, 0), 1, 0), (0, ((0, 1),), (0, 1), 0, 0), (0, (), (0,), 0, 0),
                 ADVICE[:4], ADVICE[:4] + (32,), ADVICE[:4] + (-1,), ADVICE[:4] + (HUGE,), (HUGE,) + ADVICE[1:],
                 (2, ((), ()), (), 1, 0), (2, ((0, 1), (0, HUGE)), (), 1, 0), (1, ((0, 1),), (-1,), 1, 5))
        self.judged(is_advice, (3, RING), right, wrong)
        # Tuples without common places have a table of no bits; those with two of them one of two bits.
        self.judged(is_advice, (4, ((0, 1), (2, 3))), ((1, ((1,),), (), 0, 0),), ((1, ((0, 1),), (), 0, 0), (1, ((),), (), 0, 0)))
        self.judged(is_advice, (2, ((0, 1), (1, 0))), ((1, ((0, 1, 1, 0),), (), 0, 0),), ((1, ((0, 1),), (), 0, 0),))
        self.refuses(is_advice, [3, RING, None], [(InvalidNumber, BAD_L), (InvalidDesign, BAD_DESIGNS), None])
        self.fails(InvalidDesign, is_advice, 6, SIX, (0, (), (), 0, 0))

    def test_rows_and_lists(self):
        for l, design, test in some_cases(10, 1, DESIGNS):
            heads = list(headless(design))
            for head in heads if len(heads) < 60 else random.Random(len(heads)).sample(heads, 60):
                advice = head + (0,)
                self.assertEqual(advised_row(l, design, test, advice), row_by_words(design, test, advice))
                for e in ((1, 1), (1, 2), (1, 3), (1, 999999999)):
                    wanted = list_by_words(design, test, e, advice)
                    self.assertEqual(advised_list(l, design, test, e, advice), wanted)
                    self.assertLess(len(wanted), 1 / Fraction(*e) ** 2)
                    for index in (0, 1, len(wanted) - 1, len(wanted), 31):
                        told = led_back(l, design, test, e, head + (max(0, index),))
                        self.assertEqual(told, led_by_words(design, test, e, head + (max(0, index),)))

    def test_past_the_end(self):
        self.assertEqual(advised_list(3, RING, EVENS, (1, 4), ADVICE), ((1, 1),))
        self.assertEqual(led_back(3, RING, EVENS, (1, 4), ADVICE), (1, 1))
        for index in (1, 2, 31):
            self.assertIsNone(led_back(3, RING, EVENS, (1, 4), ADVICE[:4] + (index,)))
        self.assertIsNone(led_back(3, RING, EVENS, (1, 1), ADVICE))
        # Just e N is not above it: the sum at (1, 1) is N.
        self.assertEqual(led_back(3, RING, EVENS, (999999998, 999999999), ADVICE), (1, 1))

    def test_predictors_are_advices(self):
        for l, design, test in some_cases(11, 1, ((3, RING), (4, ((3, 0, 2), (2, 1, 0))), (4, ((0, 1), (2, 3))))):
            for string in all_words(len(design[0])):
                truth = linear_truth(string)
                for i, others, last, r in predictors(l, design):
                    advice = (i, elder_tables(truth, l, design, i, others), last, r, 0)
                    self.assertEqual(advised_row(l, design, test, advice),
                                     predicted(truth, l, design, test, (i, others, last, r)))

    def test_errors(self):
        bad = [(InvalidNumber, BAD_L), (InvalidDesign, BAD_DESIGNS), (InvalidWord, BAD_TESTS)]
        advices = JUNK + (ADVICE[:4], list(ADVICE), ADVICE[:4] + (32,), ADVICE[:4] + (-1,), ADVICE[:4] + (True,),
                          (2, ((0, 1),), (), 1, 0), (2, ((0, 1), (0, 1)), (0,), 1, 0), (2, ((0, 1), [0, 1]), (), 1, 0),
                          (True, ((0, 1),), (0,), 1, 0), (2, ((0, True), (0, 1)), (), 1, 0), (3, (), (), 0, 0))
        self.refuses(advised_row, [3, RING, EVENS, ADVICE], bad + [(InvalidAdvice, advices)])
        for call in (advised_list, led_back):
            self.refuses(call, [3, RING, EVENS, (1, 1), ADVICE],
                         bad + [(InvalidFraction, SHARES), (InvalidAdvice, advices)])
            self.refuses(call, [3, RING, EVENS, (1, 999999999), ADVICE[:4] + (31,)],
                         bad + [(InvalidFraction, SHARES), (InvalidAdvice, advices)])


class Answers(Case):

    def test_at_least_one_of_both(self):
        kinds = {"within": 0, "advice": 0}
        for l, design, test in some_cases(20, 3):
            for string in all_words(len(design[0])):
                number = abs(excess_by_words(l, design, test, string))
                for e in edges(l, design, test, string):
                    answer = string_answer(l, design, test, e, string)
                    within = 2 * number <= len(design) * Fraction(*e)
                    self.assertEqual(answer[0], "within" if within else "advice")
                    self.assertTrue(is_right(l, design, test, e, string, answer))
                    self.assertIs(is_string_answer(l, design, test, e, string, answer), True)
                    kinds[answer[0]] += 1
                    if not within:
                        self.assertIs(is_advice(l, design, answer[1]), True)
                        self.assertEqual(led_back(l, design, test, e, answer[1]), string)
                        # Neither the string nor a seed stands in the advice: all it hangs on is in the tables.
                        self.assertEqual(len(answer[1]), 5)
        self.assertGreater(min(kinds.values()), 300)

    def test_tables_with_what_a_seed_adds(self):
        # No advice with tables of the common places alone leads back here: what the seed tells elsewhere is needed.
        for l, design, test in ((2, ((0,), (1,), (1,)), (0, 0, 0, 1, 1, 1, 1, 0)), (3, ((0,), (2,), (0,)), (1, 1, 1, 0, 0, 0, 0, 1)),
                                (2, ((0,), (1,), (1,)), (0, 0, 0, 1, 0, 1, 0, 0))):
            kind, advice = string_answer(l, design, test, (1, 8), (1,))
            self.assertEqual(kind, "advice")
            self.assertEqual(led_by_words(design, test, (1, 8), advice), (1,))

    def test_drawn_sizes(self):
        source = random.Random(21)
        for _ in range(120):
            l = source.randint(1, 12)
            n, m = source.randint(1, min(5, l)), source.randint(1, 6)
            places = source.sample(range(l), min(l, n + 2))
            design = tuple(tuple(source.sample(places, n)) for _ in range(m))
            test = tuple(source.randint(0, 1) for _ in range(2 ** m))
            e = pair(Fraction(source.randint(1, 40), 40 * source.choice((1, 1, 10, 10 ** 6))))
            for string in source.sample(all_words(n), min(4, 2 ** n)):
                answer = string_answer(l, design, test, e, string)
                number = Fraction(*string_excess(l, design, test, string))
                self.assertEqual(answer[0], "within" if 2 * abs(number) <= m * Fraction(*e) else "advice")
                if answer[0] == "advice":
                    self.assertEqual(led_by_words(design, test, e, answer[1]), string)
                self.assertIs(is_string_answer(l, design, test, e, string, answer), True)

    def test_the_judge_takes_all_right_answers_and_no_others(self):
        for l, design, test in some_cases(22, 1, DESIGNS[:8]):
            strings = all_words(len(design[0]))
            heads = list(headless(design))
            for e in ((1, 4), (1, 2), (3, 4), (1, 1)):
                lists = {head: list_by_words(design, test, e, head + (0,)) for head in heads}
                for string in strings:
                    number = excess_by_words(l, design, test, string)
                    for other in (number, -number, number + Fraction(1, 8), Fraction(0), number / 2):
                        value = ("within", pair(other))
                        self.assertIs(is_string_answer(l, design, test, e, string, value),
                                      is_right(l, design, test, e, string, value))
                    for head, found in lists.items():
                        for index in (0, 1, 2, 31):
                            self.assertIs(is_string_answer(l, design, test, e, string, ("advice", head + (index,))),
                                          index < len(found) and found[index] == string)

    def test_near_values(self):
        arguments = (3, RING, EVENS)
        flipped = (2, ((1, 0), (1, 0)), (), 1, 0)
        right = (("advice", ADVICE), ("advice", (2, ((0, 1), (0, 1)), (), 0, 0)), ("advice", flipped))
        wrong = (("within", (1, 2)), ("advice", ADVICE[:4] + (1,)), ("advice", (2, ((0, 0), (0, 0)), (), 1, 0)),
                 ("advice", (0, (), (0, 0), 0, 0)), ("advice", ADVICE[:4]), ("advice", ADVICE, 0), ("predictor", ADVICE),
                 ("advice", (2, ((0, 1), (0, 1)), (), 1, HUGE)), ("advice",), ("within",))
        self.judged(is_string_answer, arguments + ((1, 4), (1, 1)), right, wrong)
        wrong = (("within", (2, 4)), ("within", (1, 3)), ("within", (-1, 2)), ("within", (0, 1)), ("within", (1, 2), 0),
                 ("within", (HUGE, 2 * HUGE)), ("within", (LONG, 2 * LONG + 1)), ("advice", ADVICE[:4] + (1,)))
        # Exactly at the number with which it is compared it is within, and the advice leads there, too.
        self.judged(is_string_answer, arguments + ((1, 3), (1, 1)), right + (("within", (1, 2)),), wrong)
        self.judged(is_string_answer, arguments + ((333333332, 999999999), (1, 1)), right, (("within", (1, 2)),) + wrong)
        self.judged(is_string_answer, arguments + ((1, 1), (1, 1)), (("within", (1, 2)),), right)
        self.judged(is_string_answer, arguments + ((1, 4), (1, 0)), (("within", (0, 1)),), right)

    def test_errors(self):
        bad = [(InvalidNumber, BAD_L), (InvalidDesign, BAD_DESIGNS), (InvalidWord, BAD_TESTS), (InvalidFraction, SHARES),
               (InvalidWord, BAD_STRINGS)]
        self.refuses(string_answer, [3, RING, EVENS, (1, 1), (1, 1)], bad)
        self.refuses(string_answer, [3, RING, EVENS, (1, 999999999), (0, 0)], bad)
        self.refuses(is_string_answer, [3, RING, EVENS, (1, 4), (1, 1), None], bad + [None])
        self.fails(InvalidDesign, string_answer, 6, SIX, (0, 1), (1, 2), (0,) * 6)


class Numbers(Case):

    def test_not_within(self):
        for l, design, test in some_cases(30, 3):
            strings = all_words(len(design[0]))
            numbers = {string: abs(excess_by_words(l, design, test, string)) for string in strings}
            for e in {e for string in strings[:4] for e in edges(l, design, test, string)}:
                least = len(design) * Fraction(*e) / 2
                told = not_within(l, design, test, e)
                self.assertEqual(told, tuple(sorted(string for string in strings if numbers[string] > least)))
                self.assertLessEqual(len(told), advices_number(l, design, e))
                for string in strings:
                    self.assertEqual(string in told, string_answer(l, design, test, e, string)[0] == "advice")
            self.assertEqual(not_within(l, design, test, (1, 1)), ())

    def test_advices_number(self):
        for l, design in WIDE:
            m, total = len(design), 0
            for i in range(m):
                total += 2 ** (m - i) * 2 ** sum(2 ** common(design[i], design[j]) for j in range(i))
            for e in ((1, 1), (1, 2), (2, 3), (3, 4), (1, 3), (5, 7), (1, 999999999), (999999998, 999999999)):
                most = 0
                while e[0] > 1 and (most + 1) < 1 / Fraction(*e) ** 2:
                    most += 1
                # Below the square of e's bottom, where its top is 1.
                most = most if e[0] > 1 else e[1] ** 2 - 1
                self.assertEqual(advices_number(l, design, e), most * total)
        for l, design in DESIGNS:
            self.assertEqual(advices_number(l, design, (3, 4)), len(list(headless(design))))
        self.assertEqual(advices_number(3, RING, (1, 1)), 0)
        self.assertEqual(advices_number(5, ((0, 1, 2, 3, 4),) * 6, (3, 4)), sum(2 ** (6 - i + 32 * i) for i in range(6)))

    def test_errors(self):
        bad = [(InvalidNumber, BAD_L), (InvalidDesign, BAD_DESIGNS), (InvalidWord, BAD_TESTS), (InvalidFraction, SHARES)]
        self.refuses(not_within, [3, RING, EVENS, (1, 1)], bad)
        self.refuses(advices_number, [3, RING, (1, 2)], bad[:2] + bad[3:])
        self.fails(InvalidDesign, not_within, 6, SIX, (0, 1), (1, 2))
        self.fails(InvalidDesign, advices_number, 6, SIX, (1, 2))


class NotTrue(Case):
    """[11.6]."""

    def test_advices_lead_to_strings_that_are_within(self):
        self.assertEqual(string_answer(3, RING, EVENS, (1, 2), (1, 1)), ("within", (1, 2)))
        self.assertEqual(led_back(3, RING, EVENS, (1, 2), ADVICE), (1, 1))

    def test_a_lesser_e_can_lead_to_another_string(self):
        # The table is that of (1, 1, 1), but for its last bit.
        design, test, table = ((0, 1, 2), (0, 1, 2)), (1, 0, 0, 1), (0, 1, 1, 0, 1, 0, 0, 0)
        advice = (1, (table,), (), 1, 0)
        self.assertEqual(led_back(3, design, test, (1, 2), advice), (1, 1, 1))
        self.assertEqual(led_back(3, design, test, (1, 8), advice), (0, 0, 0))

    def test_the_number_can_be_great_without_alike_tuples(self):
        self.assertGreater(advices_number(3, RING, (3, 4)), 4)


if __name__ == "__main__":
    unittest.main()
