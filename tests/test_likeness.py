"""[18.1] to [18.5]: likenesses. What is told is worked out here by the words of the document."""

import random
import unittest
from fractions import Fraction
from itertools import product

from hardbits.errors import InvalidFamily, InvalidFraction, InvalidOperation, InvalidRow, InvalidTruth
from hardbits.near.likeness import (MOST_STEPS, farness, is_like, is_likeness_log, is_road_answer, likeness_log,
                                    likeness_row, road_answer)
from tests.support import BAD_FRACTIONS, BAD_ROWS, Case, DEEP, HUGE, LONG, is_least
from tests.test_cores import BAD_FAMILIES_ON_THREE, SHARES, is_measure, shares_for, values
from tests.test_fractions import pair
from tests.test_truths import BAD_FAMILIES, BAD_TRUTHS, some_truths

ONES, TWO = (1, 1, 1), ((1, 1, -1), (1, -1, 1))
# Rows that are wrong whatever their number of values is, and wrong ones beside a row of three values.
BAD_ANY_ROWS = BAD_ROWS + ((1, (2,)), (1, (0, -2, 0)), (2, (3, 0, 0)), (1, (1,) * 33), (LONG, (LONG + 1, 0, 0)), (1, (0, HUGE, 0)))
BAD_OTHERS = BAD_ANY_ROWS + ((1, (1,)), (1, (1, 1)), (1, (1, 1, 1, 1)))
BAD_EDGES = BAD_FRACTIONS + ((0, 1), (1, 17), (625, 10001), (-1, 2), (3, 2), (2, 1), (999999999, 999999998), (1, 999999999))
BAD_LOGS = (None, 1, True, [], [(0, 1)], ([0, 1],), (0, 1), ((0, 1), None), ((0,),), ((0, 1, 1),), ((2, 1),), ((-1, 1),), ((0, 0),),
            ((0, 2),), ((0, -2),), ((0, True),), ((True, 1),), ((0, "1"),), ((0, 1), (HUGE, 1)), ((0, HUGE),), ((0, 1),) * 257, "01", {}, DEEP)
EDGES = ((1, 16), (1, 8), (1, 5), (1, 4), (1, 3), (2, 5), (1, 2), (3, 4), (1, 1))


def sums(one, other, family):
    """The sum of (one - other) t for each test."""
    return [sum((a - b) * told for a, b, told in zip(one, other, test)) for test in family]


def like(one, other, family, e):
    return all(abs(number) <= Fraction(*e) * len(one) for number in sums(one, other, family))


def stepped(h, e, test, sign):
    return [max(Fraction(-1), min(Fraction(1), number + sign * Fraction(*e) * told)) for number, told in zip(h, test)]


def led(family, e, log):
    """The row to which the steps of the log lead."""
    h = [Fraction(0)] * len(family[0])
    for index, sign in log:
        h = stepped(h, e, family[index], sign)
    return h


def is_log(g, family, e, log):
    """Whether the pairs are all steps up to a like row."""
    h = [Fraction(0)] * len(g)
    for index, sign in log:
        number = sums(g, h, [family[index]])[0]
        if abs(number) <= Fraction(*e) * len(g) or (number > 0) != (sign == 1):
            return False
        h = stepped(h, e, family[index], sign)
    return like(g, h, family, e)


def all_logs(g, family, e, most):
    """All logs of the row, by going every way, of at most so many steps."""
    ways = [((), [Fraction(0)] * len(g))]
    while ways:
        log, h = ways.pop()
        if like(g, h, family, e):
            yield log
            continue
        for index, number in enumerate(sums(g, h, family)):
            if abs(number) > Fraction(*e) * len(g) and len(log) < most:
                sign = 1 if number > 0 else -1
                ways.append((log + ((index, sign),), stepped(h, e, family[index], sign)))


def is_core(f, family, d, e, w):
    if not is_measure(w, len(f), d):
        return False
    numbers = [sum(weight * sign * told for weight, sign, told in zip(values(w), f, test)) for test in family]
    return all(abs(number) <= Fraction(*e) * len(f) / 2 for number in numbers)


def is_road(f, family, d, e, log):
    h = led(family, e, log)
    return is_log(f, family, e, log) and sum(a * b for a, b in zip(f, h)) > (1 - 2 * Fraction(*d)) * len(f)


def some_rows(source, points):
    """Rows of values from -1 to 1: the ends, noughts, and drawn ones, also in long terms."""
    yield (1, tuple(source.choice((1, -1)) for _ in range(points)))
    yield (3, (0,) * points)
    for bottom in (1, 5, LONG):
        yield (bottom, tuple(source.choice((bottom, -bottom, source.randint(-bottom, bottom))) for _ in range(points)))


def some_cases(seed, sizes=(1, 2, 3, 4, 6), count=3):
    source = random.Random(seed)
    for points in sizes:
        for k in range(count):
            family = tuple(some_truths(source.randrange(10 ** 6), source.randint(1, 5), points))
            family += family[:1] if k == 1 else ()
            for row in some_rows(source, points):
                yield row, family


class Like(Case):

    def test_farness(self):
        source = random.Random(1)
        for row, family in some_cases(2):
            for other in some_rows(source, len(row[1])):
                told = farness(row, other, family)
                self.assertEqual(values(told), sums(values(row), values(other), family))
                self.assertTrue(is_least(told))
        self.assertEqual(farness((LONG, (LONG, -LONG)), (1, (1, -1)), ((1, 1),)), (1, (0,)))
        self.assertEqual(farness((1, (1,) * 32), (1, (-1,) * 32), ((1,) * 32,) * 256), (1, (64,) * 256))

    def test_is_like(self):
        source = random.Random(3)
        for row, family in some_cases(4):
            for other in some_rows(source, len(row[1])):
                for e in EDGES:
                    self.assertIs(is_like(row, family, e, other), like(values(row), values(other), family, e))
            self.assertIs(is_like(row, family, (1, 16), row), True)

    def test_sums_just_at_the_edge(self):
        # The sum is 3 / 4, just e N.
        self.assertIs(is_like((1, ONES), ((1, 1, 1),), (1, 4), (4, (1, 4, 4))), True)
        self.assertIs(is_like((1, ONES), ((1, 1, 1),), (249999999, 999999997), (4, (1, 4, 4))), False)
        self.assertIs(is_like((1, ONES), ((1, 1, 1),), (1, 4), (4 * LONG, (LONG - 1, 4 * LONG, 4 * LONG))), False)
        self.assertIs(is_like((1, (-1,)), ((1,),), (1, 1), (1, (0,))), True)
        self.assertIs(is_like((1, (-1,)), ((1,),), (1, 1), (LONG, (1,))), False)

    def test_near_values(self):
        right = ((2, (1, 0, 0)), (4, (2, 0, 0)), (2 * LONG, (LONG, 0, 0)), (1, ONES))
        wrong = ((4, (1, 1, -1)), (1, (2, 1, 1)), (1, (1, 1)), (1, (1, 1, 1, 1)), (2, (3, 2, 2)), (0, (0, 0, 0)), (-1, ONES), (1, (1, 1, -2)),
                 (LONG, (LONG + 1, LONG, LONG)), (1, (-1, 0, 0)))
        self.judged(is_like, ((1, ONES), TWO, (1, 4)), right, wrong)

    def test_errors(self):
        families, edges = (InvalidFamily, BAD_FAMILIES_ON_THREE), (InvalidFraction, BAD_EDGES)
        self.refuses(farness, [(1, ONES), (2, (1, 0, 0)), TWO], [(InvalidRow, BAD_ANY_ROWS), (InvalidRow, BAD_OTHERS), families])
        self.refuses(farness, [(LONG, (LONG, 0, 1)), (LONG, (-LONG, 0, 0)), TWO], [(InvalidRow, BAD_ANY_ROWS), (InvalidRow, BAD_OTHERS), families])
        self.refuses(is_like, [(1, ONES), TWO, (1, 16), None], [(InvalidRow, BAD_ANY_ROWS), families, edges, None])
        self.fails(InvalidFamily, is_like, (1, (1, 1)), TWO, (1, 4), None)


class Logs(Case):

    def test_logs(self):
        longest = 0
        for row, family in some_cases(10):
            g = values(row)
            for e in EDGES:
                log = likeness_log(row, family, e)
                self.assertTrue(is_log(g, family, e, log))
                self.assertIs(is_likeness_log(row, family, e, log), True)
                self.assertLess(len(log), 1 / Fraction(*e) ** 2 if e != (1, 1) else 1)
                longest = max(longest, len(log))
                # The row to which it leads is like g, and its sum of squares has fallen by more than e e N at each step.
                h = likeness_row(family, e, log)
                self.assertEqual(values(h), led(family, e, log))
                self.assertTrue(is_least(h))
                self.assertIs(is_like(row, family, e, h), True)
                squares = [sum((a - b) ** 2 for a, b in zip(g, led(family, e, log[:k]))) for k in range(len(log) + 1)]
                for before, behind in zip(squares, squares[1:]):
                    self.assertGreater(before - behind, Fraction(*e) ** 2 * len(g))
                # Cut, longer, and with another sign it is none.
                for k in range(len(log)):
                    self.assertIs(is_likeness_log(row, family, e, log[:k]), False)
                    turned = log[:k] + ((log[k][0], -log[k][1]),) + log[k + 1:]
                    self.assertIs(is_likeness_log(row, family, e, turned), False)
                for step in [(index, sign) for index in range(len(family)) for sign in (1, -1)]:
                    self.assertIs(is_likeness_log(row, family, e, log + (step,)), False)
        self.assertGreaterEqual(longest, 15)

    def test_the_judge_takes_all_logs_and_no_others(self):
        found = 0
        for row, family in some_cases(11, (1, 2, 3), 2):
            g, family = values(row), family[:3]
            for e in ((1, 4), (1, 3), (1, 2), (3, 4)):
                logs = set(all_logs(g, family, e, 16))
                found += len(logs)
                self.assertTrue(logs)
                for log in sorted(logs)[:40]:
                    self.assertIs(is_likeness_log(row, family, e, log), True)
                steps = [(index, sign) for index in range(len(family)) for sign in (1, -1)]
                for length in range(4):
                    for log in product(steps, repeat=length):
                        self.assertIs(is_likeness_log(row, family, e, log), log in logs)
        self.assertGreater(found, 200)

    def test_values_that_are_set(self):
        # With e of 3 / 4 a second step would lead to 3 / 2, which is set to 1; and below to -1.
        self.assertEqual(likeness_row(((1, -1),), (3, 4), ((0, 1),)), (4, (3, -3)))
        self.assertEqual(likeness_row(((1, -1),), (3, 4), ((0, 1), (0, 1))), (1, (1, -1)))
        self.assertEqual(likeness_row(((1, -1),), (3, 4), ((0, 1), (0, 1), (0, -1))), (4, (1, -1)))
        row, family = (1, (1, 1, 1, 1, -1)), ((1, 1, 1, 1, 1), (1, 1, 1, 1, -1))
        self.assertEqual(likeness_log(row, family, (2, 5)), ((1, 1), (1, 1)))
        family = ((1, 1, 1), (1, 1, -1), (1, -1, 1))
        for log in all_logs([Fraction(1), Fraction(1), Fraction(-1)], family, (2, 5), 9):
            self.assertIs(is_likeness_log((1, (1, 1, -1)), family, (2, 5), log), True)

    def test_the_edges_of_e(self):
        self.assertEqual(likeness_log((1, (1,)), ((1,),), (1, 16)), ((0, 1),) * 15)
        self.assertEqual(likeness_log((1, (-1,)), ((1,),), (1, 16)), ((0, -1),) * 15)
        self.assertEqual(likeness_log((LONG, (-LONG,)), ((-1,),), (1, 16)), ((0, 1),) * 15)
        self.assertEqual(likeness_log((1, ONES), TWO, (1, 1)), ())
        self.assertIs(is_likeness_log((1, ONES), TWO, (1, 1), ()), True)
        self.assertIs(is_likeness_log((1, (1,)), ((1,),), (1, 16), ((0, 1),) * 14), False)
        self.assertIs(is_likeness_log((1, (1,)), ((1,),), (1, 16), ((0, 1),) * 16), False)
        # The sums are 1, just e N: no step is taken.
        self.assertEqual(likeness_log((1, ONES), TWO, (1, 3)), ())
        self.assertEqual(len(likeness_log((1, ONES), TWO, (333333332, 999999997))), 2)

    def test_greatest_sizes(self):
        source = random.Random(12)
        family = tuple(some_truths(13, 256, 32))
        for row in ((1, some_truths(14, 1, 32)[0]), (HUGE, tuple(source.randint(-HUGE, HUGE) for _ in range(32)))):
            log = likeness_log(row, family, (1, 16))
            self.assertTrue(is_log(values(row), family, (1, 16), log))
            self.assertIs(is_likeness_log(row, family, (1, 16), log), True)
            self.assertLess(len(log), 256)

    def test_rows_of_any_steps(self):
        source = random.Random(15)
        for _, family in some_cases(16):
            for e in EDGES:
                log = tuple((source.randrange(len(family)), source.choice((1, -1))) for _ in range(source.choice((0, 1, 5, 20))))
                told = likeness_row(family, e, log)
                self.assertEqual(values(told), led(family, e, log))
                self.assertTrue(is_least(told))
        self.assertEqual(likeness_row(TWO, (1, 2), ()), (1, (0, 0, 0)))

    def test_as_many_steps_as_there_can_be(self):
        self.assertEqual(MOST_STEPS, 256)
        for many in (255, 256):
            self.assertEqual(likeness_row(((1,),), (1, 16), ((0, 1), (0, -1)) * (many // 2) + ((0, 1),) * (many % 2)), (1, (0,)) if many == 256 else (16, (1,)))
        self.fails(InvalidOperation, likeness_row, ((1,),), (1, 16), ((0, 1),) * 257)
        # The judge takes values of any length, and none that long is right.
        for many in (255, 256, 257, 2000):
            self.assertIs(is_likeness_log((1, (1,)), ((1,),), (1, 16), ((0, 1),) * many), False)

    def test_near_values(self):
        right = (((1, 1), (0, 1)), ((0, 1), (1, 1)))
        wrong = BAD_LOGS[:-1] + (((0, 1),), ((1, 1),), (), ((0, 1), (0, 1)), ((0, 1), (1, -1)), ((0, -1), (1, 1)), ((0, 1), (1, 1), (0, 1)), ((0, LONG),))
        self.judged(is_likeness_log, ((1, ONES), TWO, (1, 4)), right, tuple(value for value in wrong if value != ()) + (((HUGE, 1),),))
        for value in right:
            self.assertIs(is_likeness_log((1, ONES), TWO, (1, 3), value), False)

    def test_errors(self):
        families, edges = (InvalidFamily, BAD_FAMILIES_ON_THREE), (InvalidFraction, BAD_EDGES)
        for call, rest in ((likeness_log, []), (is_likeness_log, [None])):
            self.refuses(call, [(1, ONES), TWO, (1, 16)] + rest, [(InvalidRow, BAD_ANY_ROWS), families, edges] + rest)
            self.refuses(call, [(LONG, (LONG, 0, -LONG)), TWO, (1, 1)] + rest, [(InvalidRow, BAD_ANY_ROWS), families, edges] + rest)
        bad = [(InvalidFamily, BAD_FAMILIES + (((1,) * 33,),)), edges, (InvalidOperation, BAD_LOGS)]
        self.refuses(likeness_row, [TWO, (1, 4), ((0, 1), (1, -1))], bad)
        self.refuses(likeness_row, [TWO, (1, 1), ()], bad)


class Roads(Case):

    def shares(self, f, family, e):
        """Shares just at that of the weights, a little above and below, and others."""
        h = led(family, e, likeness_log((1, f), family, e))
        s = sum((1 - a * b) / 2 for a, b in zip(f, h)) / len(f)
        found = {s, s * Fraction(99, 100), s * Fraction(101, 100)}
        return [pair(d) for d in sorted(found) if 0 < d <= 1 and d.denominator < 10 ** 9] + shares_for(len(f))[::2]

    def test_at_least_one(self):
        kinds, both = {"core": 0, "row": 0}, 0
        for row, family in some_cases(20):
            if row[0] != 1 or 0 in row[1]:
                continue
            f = row[1]
            for e in EDGES:
                log = likeness_log(row, family, e)
                for d in self.shares(f, family, e):
                    kind, told = answer = road_answer(f, family, d, e)
                    kinds[kind] += 1
                    self.assertTrue((is_core if kind == "core" else is_road)(f, family, d, e, told))
                    self.assertIs(is_road_answer(f, family, d, e, answer), True)
                    way = is_road(f, family, d, e, log)
                    self.assertIs(is_road_answer(f, family, d, e, ("row", log)), way)
                    both += way and kind == "core"
        self.assertGreater(min(kinds.values()), 50)

    def test_just_at_the_share(self):
        # The row of the log is (1 / 2, 0, 0): the weights 1 / 4, 1 / 2, 1 / 2 have the share 5 / 12.
        self.assertEqual(road_answer(ONES, TWO, (5, 12), (1, 4)), ("core", (4, (1, 2, 2))))
        self.assertEqual(road_answer(ONES, TWO, (41666667, 100000000), (1, 4))[0], "row")
        self.assertEqual(road_answer(ONES, TWO, (1, 1), (1, 4))[0], "row")
        # At just the share the sum of f h is (1 - 2 d) N, and not above it.
        for log in (((0, 1), (1, 1)), ((1, 1), (0, 1))):
            self.assertIs(is_road_answer(ONES, TWO, (5, 12), (1, 4), ("row", log)), False)
            self.assertIs(is_road_answer(ONES, TWO, (41666667, 100000000), (1, 4), ("row", log)), True)

    def test_the_judge_takes_all_right_answers_and_no_others(self):
        for row, family in some_cases(21, (1, 2, 3), 2):
            if row[0] != 1 or 0 in row[1]:
                continue
            f, family = row[1], family[:3]
            for e in ((1, 4), (1, 2), (1, 1)):
                for d in ((1, 3), (1, 2), (2, 3), (1, 1)):
                    for numbers in product(range(4), repeat=len(f)):
                        w = (3, numbers)
                        self.assertIs(is_road_answer(f, family, d, e, ("core", w)), is_core(f, family, d, e, w))
                    for length in range(3):
                        for log in product([(index, sign) for index in range(len(family)) for sign in (1, -1)], repeat=length):
                            self.assertIs(is_road_answer(f, family, d, e, ("row", log)), is_road(f, family, d, e, log))

    def test_near_values(self):
        arguments = (ONES, TWO)
        rows = (("row", ((0, 1), (1, 1))), ("row", ((1, 1), (0, 1))))
        cores = (("core", (5, (1, 2, 2))), ("core", (5 * LONG, (LONG, 2 * LONG, 2 * LONG))), ("core", (4, (1, 1, 2))))
        bad = (("row", ((0, 1),)), ("row", ((0, 1), (1, 1), (0, 1))), ("row", ((0, 1), (1, -1))), ("row", ((0, 1), (1, 1)), 0), ("row",), ("core",),
               ("core", (5, (1, 2, 3))), ("core", (5, (2, 2, 2))), ("core", (5, (6, -1, 0))), ("core", (1, (1, 0))), ("core", (2, (2, 1, 0))), ("log", ((0, 1), (1, 1))),
               ("row", [(0, 1), (1, 1)]), ("row", ()), ("core", DEEP), ("row", DEEP), ("mix", (5, (1, 2, 2))))
        self.judged(is_road_answer, arguments + ((1, 3), (1, 4)), cores[:2], bad + rows)
        self.judged(is_road_answer, arguments + ((1, 2), (1, 4)), rows + (("core", (8, (2, 5, 5))),), bad + cores)

    def test_measures_just_at_the_edge(self):
        # With (1, 0, 0) each test has the sum 1: e N / 2 is 1 for e of 2 / 3.
        self.assertIs(is_road_answer(ONES, TWO, (1, 3), (2, 3), ("core", (1, (1, 0, 0)))), True)
        self.assertIs(is_road_answer(ONES, TWO, (1, 3), (667, 1000), ("core", (LONG, (LONG, 0, 0)))), True)
        self.assertIs(is_road_answer(ONES, TWO, (1, 3), (665, 999), ("core", (1, (1, 0, 0)))), False)
        # Sums below 0 count by their amounts.
        self.assertIs(is_road_answer((-1, 1, 1), TWO, (1, 3), (1, 2), ("core", (1, (1, 0, 0)))), False)
        self.assertIs(is_road_answer((-1, 1, 1), TWO, (1, 3), (2, 3), ("core", (1, (1, 0, 0)))), True)

    def test_errors(self):
        bad = [(InvalidTruth, BAD_TRUTHS), (InvalidFamily, BAD_FAMILIES_ON_THREE), (InvalidFraction, SHARES), (InvalidFraction, BAD_EDGES)]
        self.refuses(road_answer, [ONES, TWO, (1, 2), (1, 16)], bad)
        self.refuses(road_answer, [ONES, TWO, (1, 999999999), (1, 1)], bad)
        self.refuses(is_road_answer, [ONES, TWO, (1, 2), (1, 4), None], bad + [None])
        self.fails(InvalidFamily, road_answer, (1, 1), TWO, (1, 2), (1, 4))


class NotTrue(Case):
    """[18.5]."""

    def test_a_log_can_have_a_test_again(self):
        self.assertEqual(likeness_log((1, (1,)), ((1,),), (1, 4)), ((0, 1),) * 3)

    def test_logs_can_be_of_unlike_lengths(self):
        found = 0
        for row, family in some_cases(30, (3, 4), 6):
            lengths = {len(log) for log in all_logs(values(row), family[:3], (1, 4), 9)}
            found += len(lengths) > 1
        self.assertGreater(found, 0)

    def test_a_further_test_can_tell_like_rows(self):
        row, other = (1, (1, 1)), (1, (1, -1))
        self.assertIs(is_like(row, ((1, 1),), (1, 1), other), True)
        self.assertIs(is_like(row, ((1, -1),), (1, 2), (1, (-1, -1))), True)
        self.assertIs(is_like(row, ((1, -1), (1, 1)), (1, 2), (1, (-1, -1))), False)


if __name__ == "__main__":
    unittest.main()
