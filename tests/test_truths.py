"""[2.1] to [2.6], and the truths, tests and families of [0.8] and [0.10]."""

import random
import unittest
from itertools import combinations, product
from math import comb

from hardbits.errors import InvalidFamily, InvalidNumber, InvalidOperation, InvalidTruth, InvalidWord, TooMany
from hardbits.points.truths import (MOST_POINTS, MOST_TESTS, agreement, apart_number, best_of, both_family,
                                    closed_family, does_close, half_of, hanging, is_family, is_letters_answer, is_truth,
                                    letter_family, letters_answer, linear_family, opposite, table_bits, truth_of)
from tests.support import BAD_NUMBERS, Case, DEEP, HUGE, JUNK

BAD_TRUTHS = (None, 1, True, (), [1, -1], "+-", (0,), (2,), (1, 0), (True, -1), (1, None), ((1,),), (1, (1,)),
              (1,) * 33,
              (HUGE,), DEEP, {})
BAD_LETTER_TRUTHS = BAD_TRUTHS + ((1, 1, 1), (1,) * 5, (1,) * 31)
BAD_FAMILIES = (None, 1, True, (), [], ((),), (1, -1), [(1, -1)], ([1, -1],), ((1, -1), [1, 1]), ((1, -1), (1,)),
                ((1, -1), (1, 0)), ((1, -1), (1, True)), ((1, -1), None), ((1, -1),) * 257, "+-", DEEP, {(1, -1): 1})
BAD_BIT = BAD_NUMBERS + (2,)


def all_truths(points):
    return list(product((-1, 1), repeat=points))


def some_truths(seed, count, points):
    source = random.Random(seed)
    return [tuple(source.choice((1, -1)) for _ in range(points)) for _ in range(count)]


def hangs(f, letter):
    """Whether the truth hangs on the letter, by the words of [2.3]."""
    return any(f[point] != f[point ^ 2 ** letter] for point in range(len(f)))


def letters_of(f):
    return tuple(letter for letter in range(5) if 2 ** letter < len(f) and hangs(f, letter))


class Truths(Case):

    def test_constants(self):
        self.assertEqual((MOST_POINTS, MOST_TESTS), (32, 256))

    def test_is_truth(self):
        for points in (1, 2, 3, 31, 32):
            for f in some_truths(points, 5, points):
                self.assertIs(is_truth(points, f), True)
                self.assertIs(is_truth(points, f + (1,)), False)
                self.assertIs(is_truth(points, f[1:]), False)
        for value in JUNK + ((0, 1), (1, 2), (1, True), [1, -1], (1, -1, 1), (1, HUGE)):
            self.assertIs(is_truth(2, value), False, value)
        self.refuses(is_truth, [2, (1, 1)], [(InvalidNumber, BAD_NUMBERS + (0, 33)), None])

    def test_is_family(self):
        tests = some_truths(1, 256, 3)
        for value in (((1, 1, 1),), ((1, 1, 1),) * 2, ((1, 1, 1), (-1, -1, -1)), tuple(tests)):
            self.assertIs(is_family(3, value), True)
            self.assertIs(is_family(4, value), False)
        wrong = ((), (*tests, tests[0]), tests, ((1, 1),), ((1, 1, 1), (1, 1)), ((1, 1, 0),), ((1, 1, True),),
                 (1, 1, 1),
                 ([1, 1, 1],), ((1, 1, 1), None))
        for value in JUNK + wrong:
            self.assertIs(is_family(3, value), False, value)
        self.assertIs(is_family(1, ((1,),) * 256), True)
        self.assertIs(is_family(32, ((1,) * 32,) * 256), True)
        self.refuses(is_family, [2, ((1, 1),)], [(InvalidNumber, BAD_NUMBERS + (0, 33)), None])

    def test_truths_and_bits(self):
        for points in (1, 2, 5, 32):
            for f in some_truths(points, 20, points):
                bits = table_bits(f)
                self.assertEqual(bits, tuple(0 if sign == 1 else 1 for sign in f))
                self.assertEqual(truth_of(bits), f)
        bad = (None, (), [0], (2,), (-1,), (True,), (0, False), (0, None), (0,) * 33, "01", DEEP, ((0,),), {}, HUGE)
        self.refuses(truth_of, [(0, 1)], [(InvalidWord, bad)])
        self.refuses(table_bits, [(1, -1)], [(InvalidTruth, BAD_TRUTHS)])

    def test_agreement(self):
        for points in (1, 2, 3, 4):
            for one in all_truths(points):
                for other in all_truths(points):
                    alike = sum(left == right for left, right in zip(one, other))
                    self.assertEqual(agreement(one, other), alike - (points - alike))
                    self.assertEqual(apart_number(one, other), points - alike)
                    self.assertEqual(agreement(one, opposite(other)), -agreement(one, other))
        self.assertEqual(agreement((1,) * 32, (-1,) * 32), -32)
        self.assertEqual(apart_number((1,) * 32, (-1,) * 32), 32)

    def test_opposite(self):
        for f in all_truths(3):
            self.assertEqual(opposite(f), tuple(-sign for sign in f))

    def test_errors_of_truths(self):
        bad = (InvalidTruth, BAD_TRUTHS)
        for call in (agreement, apart_number):
            unlike = [(((1, 1), (1,)), InvalidOperation, None), (((1,), (1,) * 32), InvalidOperation, None)]
            self.refuses(call, [(1, -1), (1, 1)], [bad, bad], unlike)
        self.refuses(opposite, [(1, -1)], [bad])


class Families(Case):

    def test_closed_family(self):
        for points in (1, 2, 3, 5):
            for count in (1, 2, 5, 9):
                tests = some_truths(count, count, points)
                family = tuple(tests + tests[:1])
                closed = closed_family(family)
                both = set(tests) | {opposite(test) for test in tests}
                self.assertEqual(closed, tuple(sorted(both)))
                self.assertIs(does_close(closed), True)
                self.assertIs(does_close(tuple(reversed(closed)) + closed[:1]), True)
                self.assertIs(does_close(family), set(tests) == both)
                for f in some_truths(9, 5, points):
                    self.assertGreaterEqual(best_of(f, closed)[0], 0)

    def test_closed_families_lack_none(self):
        closed = closed_family(tuple(some_truths(3, 4, 4)))
        for k in range(len(closed)):
            self.assertIs(does_close(closed[:k] + closed[k + 1:]), False)

    def test_most_tests(self):
        half = [f for f in all_truths(9) if f[0] == 1]
        self.assertEqual(closed_family(tuple(half[:128])), tuple(sorted(half[:128] + [opposite(f)
                                                                                      for f in half[:128]])))
        self.assertEqual(len(closed_family(tuple(half[:128]) * 2)), 256)
        self.assertIs(does_close(tuple(half)), False)
        self.refuses(closed_family, [tuple(half[:128])], [(InvalidFamily, BAD_FAMILIES)],
                     [((tuple(half[:129]),), TooMany, 256), ((tuple(half),), TooMany, 256)])

    def test_does_close_refuses(self):
        self.refuses(does_close, [((1, -1),)], [(InvalidFamily, BAD_FAMILIES)])
        self.fails(InvalidFamily, does_close, ((1,) * 33,))

    def test_best_of(self):
        for points in (1, 3, 4):
            for f in all_truths(points)[:8]:
                family = tuple(some_truths(points, 7, points) + some_truths(points, 3, points))
                greatest, index = best_of(f, family)
                agreements = [sum(a * b for a, b in zip(f, test)) for test in family]
                self.assertEqual(greatest, max(agreements))
                self.assertEqual(index, min(k for k, number in enumerate(agreements) if number == greatest))
        self.assertEqual(best_of((1, 1), ((-1, -1), (-1, -1))), (-2, 0))
        self.assertEqual(best_of((1, 1), ((1, -1), (1, 1), (1, 1))), (2, 1))
        family = (InvalidFamily, BAD_FAMILIES + (((1,),), ((1, 1, 1),)))
        self.refuses(best_of, [(1, -1), ((1, 1), (1, -1))], [(InvalidTruth, BAD_TRUTHS), family])


class Letters(Case):

    def test_letter_families(self):
        for n in range(4):
            everything = all_truths(2 ** n)
            for r in range(n + 1):
                wanted = [f for f in everything if len(letters_of(f)) <= r]
                self.assertEqual(letter_family(n, r), tuple(wanted))

    def test_how_many(self):
        on_all = {k: sum(len(letters_of(f)) == k for f in all_truths(2 ** k)) for k in range(4)}
        self.assertEqual(on_all, {0: 2, 1: 2, 2: 10, 3: 218})
        for n in range(6):
            for r in range(min(n, 3) + 1):
                count = sum(comb(n, k) * on_all[k] for k in range(r + 1))
                if count <= 256:
                    family = letter_family(n, r)
                    self.assertEqual(len(family), count)
                    self.assertEqual(family, tuple(sorted(set(family))))
                    self.assertTrue(all(len(f) == 2 ** n and len(letters_of(f)) <= r for f in family))
                else:
                    self.fails_for(TooMany, 256, letter_family, n, r)
        self.assertEqual(len(letter_family(3, 3)), 256)
        for n, r in ((4, 4), (5, 3), (5, 4), (5, 5)):
            self.fails_for(TooMany, 256, letter_family, n, r)

    def test_linear_families(self):
        for n in range(6):
            strings = list(product((0, 1), repeat=n))
            points = [tuple(x >> k & 1 for k in range(n)) for x in range(2 ** n)]
            wanted = {tuple((-1) ** sum(a * b for a, b in zip(string, point)) for point in points)
                      for string in strings}
            self.assertEqual(linear_family(n), tuple(sorted(wanted)))
            self.assertEqual(len(linear_family(n)), 2 ** n)
            both = wanted | {tuple(-sign for sign in f) for f in wanted}
            self.assertEqual(both_family(n), tuple(sorted(both)))
            self.assertIs(does_close(both_family(n)), True)

    def test_errors_of_letter_families(self):
        n = (InvalidNumber, BAD_NUMBERS + (6,))
        self.refuses(letter_family, [2, 1], [n, (InvalidNumber, BAD_NUMBERS + (3,))], [((4, 3), TooMany, 256)])
        self.refuses(letter_family, [0, 0], [n, (InvalidNumber, BAD_NUMBERS + (1,))], [((5, 5), TooMany, 256)])
        self.refuses(linear_family, [2], [n])
        self.refuses(both_family, [2], [n])

    def test_halves(self):
        for n in (1, 2, 3, 5):
            for f in some_truths(n, 6, 2 ** n):
                for letter in range(n):
                    self.check_halves(f, n, letter)

    def check_halves(self, f, n, letter):
        g = some_truths(77, 1, 2 ** n)[0]
        halves = {bit: half_of(f, letter, bit) for bit in (0, 1)}
        for point in range(2 ** n):
            bits = [point >> k & 1 for k in range(n)]
            bit = bits.pop(letter)
            self.assertEqual(halves[bit][sum(b << k for k, b in enumerate(bits))], f[point])
        self.assertEqual(len(halves[0]) + len(halves[1]), 2 ** n)
        parts = [agreement(halves[bit], half_of(g, letter, bit)) for bit in (0, 1)]
        self.assertEqual(sum(parts), agreement(f, g))

    def test_errors_of_halves(self):
        wrong = [(InvalidTruth, BAD_LETTER_TRUTHS + ((1,), (-1,))), (InvalidNumber, BAD_NUMBERS + (2,)),
                 (InvalidNumber, BAD_BIT)]
        self.refuses(half_of, [(1, 1, 1, -1), 1, 0], wrong)
        self.refuses(half_of, [(1, -1), 0, 1], [None, (InvalidNumber, BAD_NUMBERS + (1,)), (InvalidNumber, BAD_BIT)])

    def test_hanging(self):
        for n in range(4):
            for f in all_truths(2 ** n):
                self.assertEqual(hanging(f), letters_of(f))
        for f in some_truths(6, 20, 32):
            self.assertEqual(hanging(f), letters_of(f))
        self.assertEqual(hanging(tuple((-1) ** (x >> 4 & 1) for x in range(32))), (4,))
        self.refuses(hanging, [(1,)], [(InvalidTruth, BAD_LETTER_TRUTHS)])

    def test_points_with_equal_letters_are_alike(self):
        for f in letter_family(4, 1) + letter_family(3, 2):
            seen = {}
            for point, sign in enumerate(f):
                self.assertEqual(seen.setdefault(tuple(point >> k & 1 for k in hanging(f)), sign), sign)


class LettersAnswers(Case):

    def test_just_one_of_both(self):
        for n in range(4):
            for f in all_truths(2 ** n) if n < 3 else some_truths(8, 40, 8) + list(letter_family(3, 2)):
                for r in range(n + 1):
                    self.check_answer(f, n, r)
        for f in some_truths(9, 6, 32) + list(letter_family(5, 1)):
            for r in range(6):
                self.check_answer(f, 5, r)

    def check_answer(self, f, n, r):
        kind, told = answer = letters_answer(f, r)
        on = letters_of(f)
        self.assertIs(is_letters_answer(f, r, answer), True)
        if len(on) <= r:
            self.assertEqual(kind, "letters")
            self.assertTrue(set(on) <= set(told) and len(told) <= r and told == tuple(sorted(set(told))))
            self.assertTrue(all(0 <= letter < n for letter in told))
        else:
            self.assertEqual((kind, len(told)), ("pairs", r + 1))
            letters = [letter for letter, _ in told]
            self.assertEqual(letters, sorted(set(letters)))
            self.assertTrue(all(f[point] != f[point ^ 2 ** letter] for letter, point in told))

    def test_the_judge_takes_all_right_lots_and_no_others(self):
        for n in (0, 1, 2, 3):
            for f in some_truths(n, 12, 2 ** n) + list(letter_family(n, min(n, 1))):
                for r in range(n + 1):
                    for size in range(n + 1):
                        for lot in combinations(range(n), size):
                            right = size <= r and set(letters_of(f)) <= set(lot)
                            self.assertIs(is_letters_answer(f, r, ("letters", lot)), right)

    def test_the_judge_takes_all_right_pairs_and_no_others(self):
        for f in ((1, 1, 1, -1), (1, -1, -1, 1), (1, -1, 1, -1), (1, 1, 1, 1)):
            for r in range(3):
                for letters in product(range(2), repeat=r + 1):
                    for points in product(range(4), repeat=r + 1):
                        pairs = tuple(zip(letters, points))
                        right = (letters == tuple(sorted(set(letters)))
                                 and all(f[point] != f[point ^ 2 ** letter] for letter, point in pairs))
                        self.assertIs(is_letters_answer(f, r, ("pairs", pairs)), right)

    def test_near_values(self):
        f = (1, -1, 1, -1)
        self.judged(is_letters_answer, (f, 1), (("letters", (0,)),),
                    (("letters", ()), ("letters", (1,)), ("letters", (0, 1)), ("letters", (-1,)), ("letters", (2,)),
                     ("letters", (0, 0)), ("letters", (HUGE,)), ("pairs", ((0, 0),)), ("pairs", ((0, 0), (1, 0)))))
        self.judged(is_letters_answer, (f, 2), (("letters", (0,)), ("letters", (0, 1))),
                    (("letters", (1, 0)), ("letters", (0, 1, 2)), ("pairs", ((0, 0), (0, 1), (0, 2)))))
        both = (1, 1, 1, -1)
        self.judged(is_letters_answer, (both, 1), (("pairs", ((0, 2), (1, 1))), ("pairs", ((0, 3), (1, 3)))),
                    (("pairs", ((1, 1), (0, 2))), ("pairs", ((0, 2),)), ("pairs", ((0, 2), (1, 4))),
                     ("pairs", ((0, 2), (1, -1))), ("pairs", ((0, 2), (2, 1))), ("pairs", ((0, 2), (1, HUGE))),
                     ("pairs", ((0, 2), (0, 3))), ("letters", (0, 1)), ("letters", (0,))))

    def test_errors(self):
        wrong = [(InvalidTruth, BAD_LETTER_TRUTHS), (InvalidNumber, BAD_NUMBERS + (3,))]
        self.refuses(letters_answer, [(1, 1, 1, -1), 1], wrong)
        self.refuses(is_letters_answer, [(1, 1, 1, -1), 1, None], wrong + [None])
        self.refuses(letters_answer, [(1,), 0], [wrong[0], (InvalidNumber, BAD_NUMBERS + (1,))])

    def test_what_is_not_true(self):
        closed = closed_family(((1, 1, -1, -1),))
        self.assertEqual(best_of((1, 1, 1, 1), closed)[0], 0)
        one, other = (1, -1, 1, -1), (1, -1, -1, 1)
        times = tuple(a * b for a, b in zip(one, other))
        self.assertEqual((hanging(one), hanging(other), hanging(times)), ((0,), (0, 1), (1,)))


if __name__ == "__main__":
    unittest.main()
