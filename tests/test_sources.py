"""[12.1] to [12.5]: sources of strings. What is told is worked out here by the words of the document."""

import random
import unittest
from fractions import Fraction
from itertools import combinations, product

from hardbits.errors import InvalidDesign, InvalidDraw, InvalidFraction, InvalidNumber, InvalidWord, TooMany
from hardbits.words.sources import (excess_row, is_source_answer, is_worst_source, source_answer, source_bound,
                                    source_excess, tried, worst_source)
from hardbits.words.strings import advices_number, led_back, not_within
from tests.support import BAD_FRACTIONS, BAD_NUMBERS, BAD_ROWS, Case, DEEP, HUGE, LONG, is_least
from tests.test_bits import BAD_TESTS
from tests.test_designs import BAD_DESIGNS
from tests.test_draws import all_words, number_of, values
from tests.test_fractions import pair
from tests.test_strings import DESIGNS, EVENS, RING, SHARES, SIX, WIDE, excess_by_words, headless, list_by_words, some_cases

PAIR, ALIKE = ((0, 1), (1, 0)), (1, 0, 0, 1)
BAD_L = BAD_NUMBERS + (0, 13)
# Designs with the number of their (i, tables, last, r); there are none with just 4096.
NEAREST = ((5, ((2,),) * 6, 4032), (7, ((1, 2, 4), (4, 5, 1), (5, 0, 4), (5, 2, 0), (6, 2, 4)), 3872),
           (11, ((7, 1, 3, 5, 6), (6, 2, 7, 1, 9), (3, 1, 2, 8, 4), (9, 10, 7, 5, 0)), 4112),
           (9, ((2, 7, 0), (5, 4, 3), (4, 5, 3), (4, 0, 3)), 4128), (5, ((0, 1, 2, 3, 4),) * 3, 2 ** 65 + 2 ** 34 + 8))
# Wrong draws on four strings.
BAD_SOURCES = BAD_ROWS + ((1, (1,)), (1, (1, 0)), (1, (1, 0, 0)), (1, (1, 0, 0, 0, 0)), (1, (1, 1, 0, 0)),
                          (2, (1, 0, 0, 0)), (1, (2, -1, 0, 0)), (1, (0, 0, 0, 0)), (4, [1, 1, 1, 1]), DEEP,
                          (LONG, (LONG, 1, 0, 0)))
TOPS = BAD_FRACTIONS + ((0, 1), (-1, 2), (1, 5), (249999999, 999999999), (3, 2), (2, 1), (999999999, 999999998))
BOUNDS = BAD_FRACTIONS + ((-1, 2), (3, 2), (2, 1), (-1, 999999999))


def excesses(l, design, test):
    """The excesses of all strings, by their numbers."""
    return [excess_by_words(l, design, test, string) for string in all_words(len(design[0]))]


def excess_of(numbers, source):
    return sum(number * weight for number, weight in zip(numbers, values(source)))


def is_source(value, count, top):
    """Whether the value, a row, is a source of so many strings below top."""
    weights = values(value)
    return len(weights) == count and min(weights) >= 0 and sum(weights) == 1 and max(weights) <= Fraction(*top)


def filled(numbers, top):
    """The sum of the numbers, the first ones with the weight top, the next one with what is left."""
    total, left = Fraction(0), Fraction(1)
    for number in numbers:
        part = min(left, Fraction(*top))
        total += part * number
        left -= part
    return total


def worst_by_words(numbers, top):
    ahead = sorted(numbers, reverse=True)
    return max(abs(filled(ahead, top)), abs(filled(ahead[::-1], top)))


def worst_by_corners(numbers, top):
    """The greatest amount over all sources with at most one weight that is neither 0 nor top."""
    whole = int(1 / Fraction(*top))
    rest, found = 1 - whole * Fraction(*top), Fraction(0)
    for lot in combinations(range(len(numbers)), whole):
        base = sum(numbers[k] for k in lot) * Fraction(*top)
        others = [k for k in range(len(numbers)) if k not in lot] if rest else [0]
        for k in others:
            found = max(found, abs(base + rest * numbers[k]))
    return found


def tops(count):
    """Tops of 1 / 2 ** n, of 1, and between."""
    found = {Fraction(1), Fraction(1, count), Fraction(1, 2), Fraction(2, 3), Fraction(3, 2 * count), Fraction(2, 3 * count),
             Fraction(10, 10 * count - 1), Fraction(999999998, 999999999)}
    return [pair(top) for top in sorted(found) if Fraction(1, count) <= top <= 1]


def some_sources(seed, count, many):
    source = random.Random(seed)
    for k in range(many):
        weights = [source.choice((0, 0, 1, 2, source.randint(0, 99))) for _ in range(count)]
        weights[source.randrange(count)] += 1
        factor = (1, 3, LONG)[k % 3]
        yield (sum(weights) * factor, tuple(weight * factor for weight in weights))


class Rows(Case):

    def test_rows(self):
        for l, design, test in some_cases(1, 3):
            row = excess_row(l, design, test)
            self.assertEqual(values(row), excesses(l, design, test))
            self.assertTrue(is_least(row))
        for bit in (0, 1):
            self.assertEqual(excess_row(3, RING, (bit,) * 8), (1, (0, 0, 0, 0)))

    def test_source_excesses(self):
        for l, design, test in some_cases(2, 2):
            numbers = excesses(l, design, test)
            for source in some_sources(3, len(numbers), 6):
                self.assertEqual(source_excess(l, design, test, source), pair(excess_of(numbers, source)))

    def test_errors(self):
        bad = [(InvalidNumber, BAD_L), (InvalidDesign, BAD_DESIGNS), (InvalidWord, BAD_TESTS)]
        self.refuses(excess_row, [3, RING, EVENS], bad)
        self.refuses(source_excess, [3, RING, EVENS, (4 * HUGE, (HUGE,) * 4)], bad + [(InvalidDraw, BAD_SOURCES)])
        self.fails(InvalidDesign, excess_row, 6, SIX, (0, 1))
        self.fails(InvalidDesign, source_excess, 6, SIX, (0, 1), None)


class Tried(Case):

    def test_tried(self):
        for l, design, test in some_cases(10, 2, DESIGNS):
            heads = list(headless(design))
            for e in ((1, 1), (3, 4), (1, 2), (1, 5), (1, 999999999)):
                wanted = {string for head in heads for string in list_by_words(design, test, e, head + (0,))}
                told = tried(l, design, test, e)
                self.assertEqual(told, tuple(sorted(wanted)))
                self.assertLessEqual(len(told), advices_number(l, design, e))
                self.assertLessEqual(set(not_within(l, design, test, e)), set(told))

    def test_advices_lead_to_all_tried(self):
        for l, design, test in some_cases(11, 1, DESIGNS[:6]):
            for e in ((1, 2), (1, 5)):
                led = {led_back(l, design, test, e, head + (index,)) for head in headless(design) for index in range(32)}
                self.assertEqual(tried(l, design, test, e), tuple(sorted(led - {None})))

    def test_just_let(self):
        for l, design, count in NEAREST:
            self.assertEqual(advices_number(l, design, (3, 4)), count)
            test = tuple(sum(word) % 2 for word in all_words(len(design)))
            if count <= 4096:
                self.assertLessEqual(set(not_within(l, design, test, (1, 3))), set(tried(l, design, test, (1, 3))))
            else:
                self.fails_for(TooMany, 4096, tried, l, design, test, (1, 3))

    def test_errors(self):
        bad = [(InvalidNumber, BAD_L), (InvalidDesign, BAD_DESIGNS), (InvalidWord, BAD_TESTS), (InvalidFraction, SHARES)]
        self.refuses(tried, [3, RING, EVENS, (1, 1)], bad)
        self.fails(InvalidDesign, tried, 6, SIX, (0, 1), (1, 2))
        bad = [(InvalidNumber, BAD_L), (InvalidDesign, (None, ((0, 0),), ((0, 5),), SIX)),
               (InvalidWord, (None, (0, 1) * 3, [0, 1] * 4, (0, True) * 4, (0, 2) * 4)), (InvalidFraction, SHARES)]
        much = [((l, design, (0, 1) * 2 ** (len(design) - 1), (1, 2)), TooMany, 4096) for l, design, count in NEAREST
                if count > 4096]
        self.refuses(tried, [5, ((0, 1, 2, 3, 4),), (0, 1), (1, 2)],
                     [bad[0], bad[1], (InvalidWord, bad[2][1] + ((0,), (0, 1, 1))), bad[3]], much)


class Worst(Case):

    def test_worst(self):
        for l, design, test in some_cases(20, 3):
            numbers = excesses(l, design, test)
            for top in tops(len(numbers)):
                kind, number, source = answer = worst_source(l, design, test, top)
                self.assertEqual((kind, number), ("worst", pair(worst_by_words(numbers, top))))
                self.assertTrue(is_source(source, len(numbers), top))
                self.assertEqual(abs(excess_of(numbers, source)), Fraction(*number))
                self.assertIs(is_worst_source(l, design, test, top, answer), True)
                if len(numbers) <= 8:
                    self.assertEqual(Fraction(*number), worst_by_corners(numbers, top))

    def test_even_sources(self):
        for l, design, test in some_cases(21, 2):
            numbers = excesses(l, design, test)
            kind, number, source = worst_source(l, design, test, (1, len(numbers)))
            self.assertEqual(values(source), [Fraction(1, len(numbers))] * len(numbers))
            self.assertEqual(Fraction(*number), abs(sum(numbers)) / len(numbers))
            self.assertEqual(Fraction(*worst_source(l, design, test, (1, 1))[1]), max(abs(number) for number in numbers))

    def test_the_judge_by_the_words(self):
        for l, design, test in some_cases(22, 3, ((1, ((0,), (0,))), (3, RING), (3, PAIR), (3, ((2,), (0,), (2,))))):
            numbers = excesses(l, design, test)
            for top in tops(len(numbers)):
                most = worst_by_words(numbers, top)
                for weights in product(range(5), repeat=len(numbers)):
                    source = (4, weights)
                    if sum(weights) != 4:
                        self.assertIs(is_worst_source(l, design, test, top, ("worst", pair(most), source)), False)
                    else:
                        right = is_source(source, len(numbers), top) and abs(excess_of(numbers, source)) == most
                        self.assertIs(is_worst_source(l, design, test, top, ("worst", pair(most), source)), right)

    def test_near_values(self):
        right = (("worst", (1, 2), (4, (2, 0, 0, 2))), ("worst", (1, 2), (2 * LONG, (LONG, 0, 0, LONG))),
                 ("worst", (1, 2), (2, (1, 0, 0, 1))))
        wrong = (("worst", (2, 4), (2, (1, 0, 0, 1))), ("worst", (1, 2), (1, (1, 0, 0, 0))), ("worst", (1, 4), (2, (1, 1, 0, 0))),
                 ("worst", (1, 2), (2 * LONG, (LONG - 1, 1, 0, LONG))), ("worst", (1, 2), (2 * LONG, (LONG - 1, 0, 0, LONG + 1))),
                 ("worst", (-1, 2), (2, (1, 0, 0, 1))), ("worst", (1, 2), (2, (1, 0, 0, 1, 0))), ("worst", (1, 2), (2, (1, 0, 1))),
                 ("worst", (1, 2), (4, (2, 0, 0, 1))), ("worst", (1, 2), (2, (1, 0, 0, 1)), 0), ("worst", (1, 2)),
                 ("worst", (HUGE, 2 * HUGE), (2, (1, 0, 0, 1))), ("source", (1, 2), (2, (1, 0, 0, 1))),
                 ("worst", (1, 2), (2, (0, 1, 1, 0))), ("worst", (0, 1), (2, (0, 1, 1, 0))))
        self.judged(is_worst_source, (3, PAIR, ALIKE, (1, 2)), right, wrong)
        # Where all excesses are below 0 the least ones make the greatest amount.
        numbers = excesses(1, ((0,), (0,)), (0, 1, 1, 0))
        self.assertEqual(numbers, [Fraction(-1, 2), Fraction(-1, 2)])
        self.judged(is_worst_source, (1, ((0,), (0,)), (0, 1, 1, 0), (2, 3)),
                    (("worst", (1, 2), (2, (1, 1))), ("worst", (1, 2), (3, (1, 2)))), (("worst", (1, 2), (1, (1, 0))),))

    def test_errors(self):
        bad = [(InvalidNumber, BAD_L), (InvalidDesign, BAD_DESIGNS), (InvalidWord, BAD_TESTS), (InvalidFraction, TOPS)]
        self.refuses(worst_source, [3, RING, EVENS, (1, 4)], bad)
        self.refuses(worst_source, [3, RING, EVENS, (1, 1)], bad)
        self.refuses(is_worst_source, [3, RING, EVENS, (1, 3), None], bad + [None])
        for n in range(1, 6):
            design, test = (tuple(range(n)),), (0, 1)
            self.assertEqual(worst_source(n, design, test, (1, 2 ** n))[0], "worst")
            self.fails(InvalidFraction, worst_source, n, design, test, (1, 2 ** n + 1))
        self.fails(InvalidDesign, worst_source, 6, SIX, (0, 1), (1, 2))


class Answers(Case):

    def bounds(self, most):
        found = {Fraction(0), Fraction(1), most, most * Fraction(999, 1000), most * Fraction(1001, 1000), Fraction(1, 3)}
        return [pair(bound) for bound in sorted(found) if 0 <= bound <= 1 and bound.denominator < 10 ** 9]

    def is_right(self, numbers, top, bound, value):
        kind, told = value
        if kind == "each":
            return values(told) == numbers and worst_by_words(numbers, top) <= Fraction(*bound)
        return is_source(told, len(numbers), top) and abs(excess_of(numbers, told)) > Fraction(*bound)

    def test_either_or(self):
        kinds = {"each": 0, "source": 0}
        for l, design, test in some_cases(30, 2):
            numbers = excesses(l, design, test)
            for top in tops(len(numbers))[:5]:
                most = worst_by_words(numbers, top)
                for bound in self.bounds(most):
                    answer = source_answer(l, design, test, top, bound)
                    self.assertEqual(answer[0], "each" if most <= Fraction(*bound) else "source")
                    self.assertTrue(self.is_right(numbers, top, bound, answer))
                    self.assertIs(is_source_answer(l, design, test, top, bound, answer), True)
                    if answer[0] == "each":
                        self.assertEqual(answer[1], excess_row(l, design, test))
                        for source in some_sources(31, len(numbers), 3):
                            if is_source(source, len(numbers), top):
                                self.assertLessEqual(abs(excess_of(numbers, source)), Fraction(*bound))
                    kinds[answer[0]] += 1
        self.assertGreater(min(kinds.values()), 300)

    def test_the_judge_by_the_words(self):
        for l, design, test in some_cases(32, 2, ((1, ((0,), (0,))), (3, PAIR))):
            numbers = excesses(l, design, test)
            for top in tops(len(numbers)):
                for bound in self.bounds(worst_by_words(numbers, top)):
                    for weights in product(range(4), repeat=len(numbers)):
                        if sum(weights) == 3:
                            value = ("source", (3, weights))
                            self.assertIs(is_source_answer(l, design, test, top, bound, value),
                                          self.is_right(numbers, top, bound, value))
                    for row in ((2, (1, 0, 0, 1)), (4, (2, 0, 0, 2)), (1, (0,) * 4), (1, (0, 0)), (2, (1, 1)), (2, (-1, -1))):
                        if len(row[1]) == len(numbers):
                            value = ("each", row)
                            self.assertIs(is_source_answer(l, design, test, top, bound, value),
                                          self.is_right(numbers, top, bound, value))

    def test_near_values(self):
        right = (("each", (2, (1, 0, 0, 1))), ("each", (2 * LONG, (LONG, 0, 0, LONG))), ("each", (6, (3, 0, 0, 3))))
        wrong = (("each", (2, (1, 0, 0, 0))), ("each", (2, (1, 0, 1, 0))), ("each", (2 * LONG, (LONG, 0, 1, LONG))),
                 ("each", (2, (1, 0, 0, 1, 0))), ("each", (2, (-1, 0, 0, -1))), ("each", (2, (1, 0, 0))), ("each", (0, (1, 0, 0, 1))),
                 ("each", (2, (1, 0, 0, 1)), 0), ("source", (2, (1, 0, 0, 1))), ("each",), ("each", (1, 2)))
        self.judged(is_source_answer, (3, PAIR, ALIKE, (1, 2), (1, 2)), right, wrong)
        sources = (("source", (2, (1, 0, 0, 1))), ("source", (2 * LONG, (LONG, 1, 0, LONG - 1))), ("source", (4, (2, 1, 0, 1))))
        wrong = right + (("source", (4, (3, 0, 0, 1))), ("source", (2, (1, 1, 0, 0))), ("source", (3, (1, 1, 0, 1))),
                         ("source", (2 * LONG, (LONG + 1, 0, 0, LONG - 1))), ("source", (4, (2, 0, 0, 1))), ("worst", (2, (1, 0, 0, 1))),
                         ("source", (2, (1, 0, 0, 1)), 0), ("source", (2, (1, 0, 0, 1, 0))), ("source", (2, (3, 0, 0, -1))))
        self.judged(is_source_answer, (3, PAIR, ALIKE, (1, 2), (1, 3)), sources, wrong)

    def test_errors(self):
        bad = [(InvalidNumber, BAD_L), (InvalidDesign, BAD_DESIGNS), (InvalidWord, BAD_TESTS), (InvalidFraction, TOPS),
               (InvalidFraction, BOUNDS)]
        self.refuses(source_answer, [3, RING, EVENS, (1, 4), (0, 1)], bad)
        self.refuses(source_answer, [3, RING, EVENS, (1, 1), (1, 1)], bad)
        self.refuses(is_source_answer, [3, RING, EVENS, (1, 3), (1, 2), None], bad + [None])
        self.fails(InvalidDesign, source_answer, 6, SIX, (0, 1), (1, 2), (1, 2))


class Bounds(Case):

    def test_bounds(self):
        for l, design, test in some_cases(40, 2):
            numbers = excesses(l, design, test)
            for e in ((1, 1), (1, 2), (5, 7), (1, 9)):
                for top in tops(len(numbers))[:4]:
                    edge = len(design) * Fraction(*e) / 2
                    told = Fraction(*source_bound(l, design, e, top))
                    self.assertEqual(told, edge + Fraction(*top) * advices_number(l, design, e))
                    most = Fraction(*worst_source(l, design, test, top)[1])
                    outside = len(not_within(l, design, test, e))
                    self.assertLessEqual(most, edge + Fraction(*top) * outside)
                    self.assertLessEqual(most, told)

    def test_the_document_s_sizes(self):
        told = source_bound(10, ((0, 1, 2, 3, 4), (5, 6, 7, 8, 9)), (5, 7), (1, 32))
        self.assertEqual(told, pair(Fraction(5, 7) + Fraction(8, 32)))
        self.assertLess(Fraction(*told), 1)
        self.assertEqual(source_bound(3, RING, (1, 1), (1, 1)), (3, 2))

    def test_errors(self):
        bad = [(InvalidNumber, BAD_L), (InvalidDesign, BAD_DESIGNS), (InvalidFraction, SHARES), (InvalidFraction, TOPS)]
        self.refuses(source_bound, [3, RING, (1, 2), (1, 4)], bad)
        self.refuses(source_bound, [3, RING, (1, 999999999), (1, 1)], bad)
        self.fails(InvalidDesign, source_bound, 6, SIX, (1, 2), (1, 2))


class NotTrue(Case):
    """[12.5]."""

    def test_tried_strings_can_be_within(self):
        self.assertIn((0, 1), tried(3, PAIR, ALIKE, (3, 4)))
        self.assertNotIn((0, 1), not_within(3, PAIR, ALIKE, (3, 4)))

    def test_worst_sources_can_have_more_other_weights(self):
        # Under the top of 1 there is a tie between two strings.
        self.assertIs(is_worst_source(3, PAIR, ALIKE, (1, 1), ("worst", (1, 2), (4, (1, 0, 0, 3)))), True)

    def test_a_lesser_top_can_leave_the_amount(self):
        self.assertEqual(worst_source(3, PAIR, ALIKE, (1, 1))[1], worst_source(3, PAIR, ALIKE, (1, 2))[1])


if __name__ == "__main__":
    unittest.main()
