"""[19.1] to [19.5]: few draws for all. What is told is worked out here by the words of the document."""

import random
import unittest
from fractions import Fraction
from itertools import combinations, product
from math import comb

from hardbits.errors import InvalidMix, InvalidNumber, InvalidOperation, Refused, TooMany
from hardbits.few.draws import (bare_rows, draws_by_mean, is_cover, is_draws, is_most, least_chance, least_draws, least_lots,
                                most_by_mean, shifts_answer, single_number, tie_weight, uncovered)
from tests.support import BAD_NUMBERS, BAD_ROWS, Case, DEEP, HUGE, JUNK, LONG
from tests.test_cores import values
from tests.test_fractions import pair

GOODS, EVEN = ((1, 1, 0), (0, 1, 1), (1, 0, 1)), (3, (1, 1, 1))
BAD_GOODS = (None, 1, True, (), ((),), ((), ()), (1, 0, 1), [(1, 0, 1)], ([1, 0, 1],), ((1, 0, 2),), ((1, 0, -1),), ((1, 0, True),), ((1, 0, None),),
             ((1, 0, 1), (1, 0)), ((1, 0), (1, 0, 1)), ((1, 0, 1), None), ((1, 0, 1),) * 33, ((1,) * 33,), ("101",), "101", {}, ((1, HUGE, 1),), DEEP)
BAD_MIXES = BAD_ROWS + ((1, (1,)), (1, (1, 0)), (1, (1, 0, 0, 0)), (1, (1, 1, 0)), (2, (1, 0, 0)), (1, (2, -1, 0)), (1, (0, 0, 0)), (LONG, (LONG, 1, 0)))
BAD_INDICES = (None, 1, True, [0], (3,), (-1,), (0, True), (False,), (0, None), ((0,),), (HUGE,), "01", {}, DEEP)
BAD_DRAWS = BAD_INDICES + ((0,) * 65,)
BAD_T = BAD_NUMBERS + (0, 2, 4, 14, 16, 17)
BAD_N = BAD_NUMBERS + (0, 6)
BAD_K = BAD_NUMBERS + (0, 9)
# Wrong lots of numbers of words of two bits, and wrong shifts by them.
BAD_LOT = (None, 1, True, [0, 1], (1, 0), (0, 0), (0, 1, 1), (4,), (-1, 0), (0, True), (False, 1), (0, None), ((0,),), (0, HUGE), "01", {}, DEEP)
BAD_SHIFTS = (None, 1, True, [0, 1], (4,), (-1, 0), (0, True), (False,), (0, None), ((0,),), (0, HUGE), "01", {}, DEEP, (0,) * 9)
# Wrong weights of three places, and wrong lots of them.
BAD_WEIGHTS = (None, 1, True, (), [1, 2, 1], (0, 1, 1), (1, 1000, 1), (-1, 1, 1), (1, True, 1), (1, None, 1), (1, (2,), 1), (1, HUGE, 1), "121", {}, DEEP,
               (1,) * 6)
BAD_LOTS = (None, 1, True, (), (0, 1), [(0,)], ([0],), ((0,), (0,)), ((), ()), ((0, 0),), ((1, 0),), ((3,),), ((-1,),), ((0, True),), ((False,),), ((0,), None),
            ((0, HUGE),), (((0,),),), "0", {}, DEEP, tuple((k,) for k in range(25)))


def weight_of(row, mix):
    return sum(weight for good, weight in zip(row, values(mix)) if good)


def bare(goods, draws):
    return tuple(index for index, row in enumerate(goods) if not any(row[draw] for draw in draws))


def needed(goods, mix):
    """The least t of [19.1]; v is above 0."""
    v, t = min(weight_of(row, mix) for row in goods), 0
    while len(goods) * (1 - v) ** t >= 1:
        t += 1
    return t


def most_sum(goods, mix, t):
    v = min(weight_of(row, mix) for row in goods)
    return len(goods) * sum(comb(t, j) * v ** j * (1 - v) ** (t - j) for j in range(t // 2 + 1))


def are_most(goods, draws):
    return all(2 * sum(row[draw] for draw in draws) > len(draws) for row in goods)


def some_mixes(source, count):
    """Even mixes, mixes of one thing, and drawn ones, also in long terms."""
    yield (count, (1,) * count)
    yield (1, (0,) * (count - 1) + (1,))
    for factor in (1, 4, LONG):
        weights = [source.choice((0, 1, 1, 2, 5)) for _ in range(count)]
        weights[source.randrange(count)] += 1
        yield (sum(weights) * factor, tuple(weight * factor for weight in weights))


def some_goods(seed, many=40, most=6):
    """Rows of drawn bits, of many ones, with a row twice, with a draw that is good for all, with a row none is good for."""
    source = random.Random(seed)
    for k in range(many):
        rows, choices = source.randint(1, most), source.randint(1, most)
        dense = source.choice((1, 1, 2, 3, 8))
        goods = [[int(source.randint(0, dense) > 0) for _ in range(choices)] for _ in range(rows)]
        if k % 5 == 1:
            goods = [[1] + row[1:] for row in goods]
        if k % 5 == 2:
            goods[source.randrange(rows)] = [0] * choices
        if k % 5 == 3:
            goods.append(goods[0])
        yield tuple(map(tuple, goods))


class Means(Case):

    def test_bare_rows_and_chances(self):
        source = random.Random(1)
        for goods in some_goods(2):
            choices = len(goods[0])
            for count in (0, 1, 2, 5, 64):
                draws = tuple(source.randrange(choices) for _ in range(count))
                self.assertEqual(bare_rows(goods, draws), bare(goods, draws))
            for mix in some_mixes(source, choices):
                self.assertEqual(least_chance(goods, mix), pair(min(weight_of(row, mix) for row in goods)))
        self.assertEqual(bare_rows(GOODS, ()), (0, 1, 2))
        self.assertEqual(bare_rows(((0,) * 32,) * 32, (31,) * 64), tuple(range(32)))
        self.assertEqual(bare_rows(((1,),), ()), (0,))
        self.assertEqual(least_chance(((0, 1),), (LONG, (LONG, 0))), (0, 1))
        self.assertEqual(least_chance(((1,) * 32,) * 32, (32, (1,) * 32)), (1, 1))

    def test_as_many_draws_as_the_mean_tells(self):
        counted = {"made": 0, "refused": 0, "many": 0}
        source = random.Random(3)
        for goods in some_goods(4, 80):
            for mix in some_mixes(source, len(goods[0])):
                weights = [weight_of(row, mix) for row in goods]
                if min(weights) == 0:
                    counted["refused"] += 1
                    self.assertEqual(self.fails(Refused, draws_by_mean, goods, mix).reason, ("bare", weights.index(0)))
                    self.assertEqual(self.fails(Refused, is_draws, goods, mix, ()).reason, ("bare", weights.index(0)))
                    continue
                t = needed(goods, mix)
                told = draws_by_mean(goods, mix)
                counted["made"] += 1
                self.assertLessEqual(len(told), t)
                self.assertEqual(bare(goods, told), ())
                self.assertIs(is_draws(goods, mix, told), True)
                # Any t draws, or fewer, that leave no row bare are right, and no others.
                for length in range(min(t, 3) + 2):
                    for draws in list(product(range(len(goods[0])), repeat=length))[:60]:
                        self.assertIs(is_draws(goods, mix, draws), length <= t and not bare(goods, draws))
                self.assertIs(is_draws(goods, mix, told + (told[0],) * (t - len(told))), True)
                self.assertIs(is_draws(goods, mix, told + (told[0],) * (t + 1 - len(told))), False)
        self.assertGreater(min(counted["made"], counted["refused"]), 50)

    def test_one_draw_for_all(self):
        # With v of 1 a single draw is enough, and none is not.
        self.assertEqual(len(draws_by_mean(((1, 1), (1, 1)), (2, (1, 1)))), 1)
        self.assertIs(is_draws(((1, 1), (1, 1)), (2, (1, 1)), (0, 1)), False)
        self.assertIs(is_draws(((1,),), (1, (1,)), ()), False)
        self.assertEqual(draws_by_mean(((1,),), (LONG, (LONG,))), (0,))
        self.assertEqual(needed(((1, 0),), (99, (1, 98))), 1)
        self.assertEqual(draws_by_mean(((1, 0),), (99, (1, 98))), (0,))

    def test_64_draws_and_more(self):
        # Two rows with a weight v need t draws, 2 (1 - v) ** t being below 1.
        goods = ((1, 0, 0), (0, 1, 0))
        for bottom in range(80, 110):
            mix = (bottom, (1, 1, bottom - 2))
            t = needed(goods, mix)
            if t <= 64:
                self.assertIs(is_draws(goods, mix, (0,) * (t - 1) + (1,)), True)
                self.assertIs(is_draws(goods, mix, (0,) * t + (1,)), False)
                self.assertEqual(bare(goods, draws_by_mean(goods, mix)), ())
            else:
                self.fails_for(TooMany, 64, draws_by_mean, goods, mix)
                self.fails_for(TooMany, 64, is_draws, goods, mix, (0, 1))
        self.assertEqual({needed(goods, (bottom, (1, 1, bottom - 2))) for bottom in range(92, 95)}, {64, 65})

    def test_refused_ahead_of_too_many(self):
        self.assertEqual(self.fails(Refused, draws_by_mean, ((1, 0), (0, 1), (0, 1)), (1, (1, 0))).reason, ("bare", 1))
        goods = ((1, 0, 0), (0, 1, 0), (0, 0, 0))
        self.assertEqual(self.fails(Refused, is_draws, goods, (1000, (1, 1, 998)), None).reason, ("bare", 2))

    def test_greatest_sizes(self):
        source = random.Random(5)
        goods = tuple(tuple(source.randint(0, 1) for _ in range(32)) for _ in range(32))
        for mix in ((32, (1,) * 32), (32 * LONG, (LONG,) * 32)):
            told = draws_by_mean(goods, mix)
            self.assertEqual(bare(goods, told), ())
            self.assertLessEqual(len(told), needed(goods, mix))
        lone = tuple(tuple(int(i == j) for j in range(32)) for i in range(32))
        self.assertGreater(needed(lone, (32, (1,) * 32)), 64)
        self.fails_for(TooMany, 64, draws_by_mean, lone, (32, (1,) * 32))

    def test_near_values(self):
        wrong = ((0,), (2, 2), (0, 1, 2), (0, 3), (0, -1), (0, HUGE), (LONG, 1), (0, None), (0, (1,)), ((0, 1),))
        right = ((0, 1), (1, 2), (2, 0), (2, 1))
        self.judged(is_draws, (GOODS, EVEN), right, wrong)

    def test_errors(self):
        goods, mixes = (InvalidOperation, BAD_GOODS), (InvalidMix, BAD_MIXES)
        self.refuses(bare_rows, [GOODS, (0, 2)], [goods, (InvalidOperation, BAD_DRAWS)])
        self.refuses(bare_rows, [GOODS, ()], [goods, (InvalidOperation, BAD_DRAWS)])
        self.refuses(least_chance, [GOODS, EVEN], [goods, mixes])
        then = [([GOODS, (1, (1, 0, 0))], Refused, None), ([((1, 0, 0), (0, 1, 0)), (99, (1, 1, 97))], TooMany, 64)]
        self.refuses(draws_by_mean, [GOODS, EVEN], [goods, mixes], then)
        self.refuses(is_draws, [GOODS, (3 * LONG, (LONG,) * 3), None], [goods, mixes, None], [(arguments + [None], error, kept) for arguments, error, kept in then])


class Most(Case):

    def test_by_most(self):
        counted = {"made": 0, "open": 0}
        source = random.Random(10)
        for goods in some_goods(11, 60):
            for mix in some_mixes(source, len(goods[0])):
                for t in (1, 3, 5, 9, 15):
                    if most_sum(goods, mix, t) >= 1:
                        counted["open"] += 1
                        self.assertEqual(self.fails(Refused, most_by_mean, goods, mix, t).reason, ("open",))
                        continue
                    counted["made"] += 1
                    told = most_by_mean(goods, mix, t)
                    self.assertEqual(len(told), t)
                    self.assertTrue(are_most(goods, told))
                    self.assertIs(is_most(goods, t, told), True)
        self.assertGreater(min(counted.values()), 100)

    def test_the_judge_takes_all_and_no_others(self):
        for goods in some_goods(12, 20, 4):
            for t in (1, 3, 5):
                for draws in product(range(len(goods[0])), repeat=t):
                    self.assertIs(is_most(goods, t, draws), are_most(goods, draws))
                self.assertIs(is_most(goods, t, (0,) * (t + 1)), False)
                self.assertIs(is_most(goods, t, (0,) * (t - 1)), False)

    def test_sums_just_at_1(self):
        # Two rows, v of 1 / 2 and one draw: 2 times 1 / 2. The draw (1, 1) would be good for both all the same.
        goods, mix = ((1, 0, 1), (0, 1, 1)), (2, (1, 1, 0))
        self.assertEqual(most_sum(goods, mix, 1), 1)
        self.assertEqual(self.fails(Refused, most_by_mean, goods, mix, 1).reason, ("open",))
        self.assertIs(is_most(goods, 1, (2,)), True)
        # A little above 1 / 2 is enough.
        mix = (2 * LONG, (LONG - 1, LONG - 1, 2))
        self.assertLess(most_sum(goods, mix, 1), 1)
        self.assertEqual(most_by_mean(goods, mix, 1), (2,))
        # One row, v of 1 / 2, any t: just 1 / 2.
        for t in range(1, 16, 2):
            self.assertEqual(most_sum(((1, 0),), (2, (1, 1)), t), Fraction(1, 2))
            self.assertTrue(are_most(((1, 0),), most_by_mean(((1, 0),), (2, (1, 1)), t)))

    def test_few_good_ones_are_not_refused_as_bare(self):
        # Here v is 0: the sum is the number of rows, so it is open.
        self.assertEqual(self.fails(Refused, most_by_mean, ((1, 0), (0, 0)), (2, (1, 1)), 15).reason, ("open",))

    def test_greatest_sizes(self):
        source = random.Random(13)
        goods = tuple(tuple(int(source.random() < 0.95) for _ in range(32)) for _ in range(32))
        for mix in ((32, (1,) * 32), (32 * LONG, (LONG,) * 32)):
            self.assertLess(most_sum(goods, mix, 15), 1)
            told = most_by_mean(goods, mix, 15)
            self.assertTrue(are_most(goods, told))

    def test_near_values(self):
        self.judged(is_most, (GOODS, 3), ((0, 1, 2), (2, 1, 0), (1, 2, 0)), ((0, 0, 1), (0, 1), (0, 1, 2, 0), (0, 1, 3), (0, 1, -1), (0, 1, HUGE), (0, LONG, 1)))

    def test_errors(self):
        goods, mixes, numbers = (InvalidOperation, BAD_GOODS), (InvalidMix, BAD_MIXES), (InvalidNumber, BAD_T)
        self.refuses(most_by_mean, [((1, 1, 1),), EVEN, 15], [goods, mixes, numbers], [([GOODS, EVEN, 1], Refused, None)])
        self.refuses(most_by_mean, [((1, 1, 1),) * 32, EVEN, 1], [goods, mixes, numbers])
        self.refuses(is_most, [GOODS, 15, None], [goods, numbers, None])


class Least(Case):

    def test_least_draws(self):
        found = set()
        for goods in some_goods(20, 120, 8):
            choices = len(goods[0])
            lengths = [k for k in range(1, choices + 1) if any(not bare(goods, draws) for draws in combinations(range(choices), k))]
            told = least_draws(goods)
            self.assertEqual(told, min(lengths) if lengths else None)
            found.add(told)
        self.assertLessEqual({None, 1, 2, 3}, found)

    def test_12_and_13_draws(self):
        lone = tuple(tuple(int(i == j) for j in range(12)) for i in range(12))
        self.assertEqual(least_draws(lone), 12)
        self.assertIsNone(least_draws(lone + ((0,) * 12,)))
        self.assertIsNone(least_draws(((0,) * 12,) * 32))
        self.assertEqual(least_draws(((0,) * 11 + (1,),) * 32), 1)
        self.assertEqual((least_draws(((1,),)), least_draws(((0,),))), (1, None))
        self.fails_for(TooMany, 12, least_draws, ((1,) * 13,))
        self.refuses(least_draws, [GOODS], [(InvalidOperation, BAD_GOODS)], [([((1,) * 13,)], TooMany, 12)])

    def test_wide_rows(self):
        self.fails_for(TooMany, 12, least_draws, ((1,) * 32,) * 32)


def uncovered_by_words(n, lot, shifts):
    return tuple(x for x in range(2 ** n) if not any((x ^ z) in lot for z in shifts))


def covers(n, lot, shifts):
    return not uncovered_by_words(n, lot, shifts)


def some_lots(seed, most=5, many=4):
    source = random.Random(seed)
    for n in range(1, most + 1):
        N = 2 ** n
        yield n, ()
        yield n, tuple(range(N))
        for size in range(1, N):
            for _ in range(1 if n == 5 else many):
                yield n, tuple(sorted(source.sample(range(N), size)))


class Shifts(Case):

    def test_uncovered(self):
        source = random.Random(30)
        for n, lot in some_lots(31):
            for count in (0, 1, 2, 8):
                shifts = tuple(source.randrange(2 ** n) for _ in range(count))
                self.assertEqual(uncovered(n, lot, shifts), uncovered_by_words(n, lot, shifts))
        self.assertEqual(uncovered(5, tuple(range(32)), ()), tuple(range(32)))
        self.assertEqual(uncovered(1, (), (0, 1)), (0, 1))
        self.assertEqual(uncovered(2, (0, 1), (3, 3)), (0, 1))

    def test_one_of_three(self):
        kinds = {"shifts": 0, "few": 0, "open": 0}
        for n, lot in some_lots(32):
            N, s = 2 ** n, len(lot)
            for k in range(1, 9):
                answer = shifts_answer(n, lot, k)
                kinds[answer[0]] += 1
                if (N - s) ** k < N ** (k - 1):
                    self.assertEqual((answer[0], len(answer)), ("shifts", 2))
                    self.assertEqual(len(answer[1]), k)
                    self.assertTrue(covers(n, lot, answer[1]))
                    self.assertIs(is_cover(n, lot, k, answer[1]), True)
                    self.assertGreaterEqual(k * s, N)
                else:
                    self.assertEqual(answer, ("few", k * s) if k * s < N else ("open",))
        self.assertGreater(min(kinds.values()), 100)

    def test_just_at_the_counts(self):
        # k s just N: neither few, nor told to cover; and just below it.
        self.assertEqual(shifts_answer(2, (0, 1), 2), ("open",))
        self.assertEqual(shifts_answer(3, (0,), 7), ("few", 7))
        self.assertEqual(shifts_answer(3, (0,), 8), ("open",))
        # Powers that are just equal: (16 - 8) ** 4 and 16 ** 3, (2 - 1) ** 1 and 2 ** 0.
        self.assertEqual(shifts_answer(4, tuple(range(8)), 4), ("open",))
        self.assertEqual(shifts_answer(4, tuple(range(8)), 5)[0], "shifts")
        self.assertEqual(shifts_answer(1, (0,), 1), ("few", 1))
        self.assertEqual(shifts_answer(2, (0, 1), 3)[0], "shifts")
        self.assertEqual(shifts_answer(5, tuple(range(32)), 1)[0], "shifts")
        self.assertEqual(shifts_answer(5, tuple(range(31)), 1), ("few", 31))
        self.assertEqual(shifts_answer(5, (), 8), ("few", 0))

    def test_the_judge_takes_all_and_no_others(self):
        for n, lot in some_lots(33, 3, 2):
            for k in (1, 2, 3):
                for shifts in list(product(range(2 ** n), repeat=k))[:200]:
                    self.assertIs(is_cover(n, lot, k, shifts), covers(n, lot, shifts))
                self.assertIs(is_cover(n, lot, k, (0,) * (k + 1)), False)
                self.assertIs(is_cover(n, lot, k, (0,) * (k - 1)), False)

    def test_near_values(self):
        wrong = ((0, 1), (0, 0), (0, 4), (0, -1), (0, HUGE), (0,), (0, 3, 0), (0, (3,)))
        self.judged(is_cover, (2, (0, 1, 2), 2), ((0, 3), (3, 0), (1, 2)), tuple(value for value in wrong if value != (0, 1)) + ((LONG, 0),))
        self.judged(is_cover, (2, (0, 1), 2), ((0, 2), (1, 3), (3, 0)), wrong)
        # Numbers of no words do not stand beside shifts that cover all.
        for shift in (4, -1, True, None, HUGE):
            self.assertIs(is_cover(2, (0, 1, 2, 3), 2, (0, shift)), False)
        self.assertIs(is_cover(2, (0, 1, 2, 3), 2, (0, 3)), True)

    def test_errors(self):
        numbers, lots = (InvalidNumber, BAD_N), (InvalidOperation, BAD_LOT)
        self.refuses(uncovered, [2, (0, 1), (3,) * 8], [numbers, lots, (InvalidOperation, BAD_SHIFTS)])
        self.refuses(uncovered, [2, (), ()], [numbers, lots, (InvalidOperation, BAD_SHIFTS)])
        self.refuses(shifts_answer, [2, (0, 1, 2, 3), 1], [numbers, lots, (InvalidNumber, BAD_K)])
        self.refuses(shifts_answer, [2, (1, 3), 8], [numbers, lots, (InvalidNumber, BAD_K)])
        self.refuses(is_cover, [2, (0, 1), 8, None], [numbers, lots, (InvalidNumber, BAD_K), None])


def weight(weights, lot):
    return sum(weights[place] for place in lot)


def least_by_words(weights, lots):
    least = min(weight(weights, lot) for lot in lots)
    return tuple(sorted(lot for lot in lots if weight(weights, lot) == least))


def is_tied(weights, lots, place):
    having = [weight(weights, lot) for lot in lots if place in lot]
    lacking = [weight(weights, lot) for lot in lots if place not in lot]
    return bool(having and lacking) and min(having) == min(lacking)


def all_lots(m):
    return [lot for k in range(m + 1) for lot in combinations(range(m), k)]


def some_weighed(seed, many=150):
    source = random.Random(seed)
    for k in range(many):
        m = source.randint(1, 5)
        some = all_lots(m) if k % 3 == 0 else [lot for lot in all_lots(m) if 2 * len(lot) in (m - 1, m, m + 1)]
        lots = source.sample(some, source.randint(1, min(24, len(some))))
        top = source.choice((1, 2, 3, 9))
        weights = tuple(source.choice((source.randint(1, top), source.randint(1, top), 999)) for _ in range(m))
        yield weights, tuple(lots)


class Lots(Case):

    def test_just_one_if_no_place_is_tied(self):
        counts = {True: 0, False: 0}
        for weights, lots in some_weighed(40, 400):
            told = least_lots(weights, lots)
            self.assertEqual(told, least_by_words(weights, lots))
            tied = [place for place in range(len(weights)) if is_tied(weights, lots, place)]
            self.assertEqual(len(told) == 1, not tied)
            counts[len(told) == 1] += 1
        self.assertGreater(min(counts.values()), 50)

    def test_tie_weights(self):
        seen = set()
        for weights, lots in some_weighed(41, 400):
            for place in range(len(weights)):
                told = tie_weight(weights, lots, place)
                if all(place in lot for lot in lots) or all(place not in lot for lot in lots):
                    self.assertIsNone(told)
                    continue
                # With just this weight of its own, if the others stand, it is tied, and with no other one.
                for near in (told - 1, told, told + 1):
                    changed = weights[:place] + (near,) + weights[place + 1:]
                    self.assertIs(is_tied(changed, lots, place), near == told)
                self.assertEqual(is_tied(weights, lots, place), weights[place] == told)
                seen |= {told < 1, 2 + (told > 999)}
        self.assertEqual(seen, {False, True, 2, 3})

    def test_tie_weights_beyond_the_bounds(self):
        self.assertEqual(tie_weight((1, 5), ((0, 1), (1,)), 0), 0)
        self.assertEqual(tie_weight((1, 5), ((0, 1), ()), 0), -5)
        self.assertEqual(tie_weight((1, 999, 999), ((0,), (1, 2)), 0), 1998)
        self.assertIsNone(tie_weight((1, 2), ((0,), (0, 1)), 0))
        self.assertIsNone(tie_weight((1, 2), ((0,), ()), 1))
        self.assertEqual(tie_weight((1, 2), ((0,), ()), 0), 0)

    def test_empty_lots_and_the_lot_of_all(self):
        self.assertEqual(least_lots((1, 1, 1, 1, 999), ((0, 1, 2, 3, 4), ())), ((),))
        self.assertEqual(least_lots((3,), ((0,),)), ((0,),))
        self.assertEqual(least_lots((3,), ((),)), ((),))
        self.assertEqual(least_lots((2, 1, 1), ((1, 2), (0,), (0, 1))), ((0,), (1, 2)))
        self.assertEqual(single_number(1, 6, ((),)), 6)
        self.assertEqual(single_number(5, 6, ((0, 1, 2, 3, 4),)), 6 ** 5)

    def test_24_lots(self):
        lots = tuple(all_lots(5)[:24])
        self.assertEqual(least_lots((1,) * 5, lots), ((),))
        self.assertEqual(least_lots((1,) * 5, lots[1:] + lots[:1]), ((),))
        self.fails(InvalidOperation, least_lots, (1,) * 5, tuple(all_lots(5)[:25]))
        self.fails(InvalidOperation, single_number, 5, 1, tuple(all_lots(5)[:25]))

    def test_how_many_ways_leave_one(self):
        source = random.Random(42)
        for m, W in ((1, 1), (1, 6), (2, 1), (2, 3), (3, 2), (3, 4), (4, 3), (5, 2)):
            for _ in range(12):
                lots = tuple(source.sample(all_lots(m), source.randint(1, min(24, 2 ** m))))
                wanted = sum(len(least_by_words(weights, lots)) == 1 for weights in product(range(1, W + 1), repeat=m))
                told = single_number(m, W, lots)
                self.assertEqual(told, wanted)
                self.assertGreaterEqual(told, W ** m - m * W ** (m - 1))
        # As few as can be: of one place the empty lot is lighter in each way; of singles the ways that tie them are left out.
        self.assertEqual(single_number(5, 6, tuple((place,) for place in range(5))), self.singles(5, 6))

    def singles(self, m, W):
        return sum(m * (W - least) ** (m - 1) for least in range(1, W + 1))

    def test_errors(self):
        weights, lots = (InvalidOperation, BAD_WEIGHTS), (InvalidOperation, BAD_LOTS)
        self.refuses(least_lots, [(1, 999, 1), ((0, 2), (), (0, 1, 2))], [weights, lots])
        self.refuses(least_lots, [(1,), ((0,),)], [weights, lots])
        self.refuses(tie_weight, [(1, 2, 1), ((0,), (1,)), 2], [weights, lots, (InvalidNumber, BAD_NUMBERS + (3,))])
        self.refuses(tie_weight, [(999, 999, 999), ((0, 1),), 0], [weights, lots, (InvalidNumber, BAD_NUMBERS + (3,))])
        self.refuses(single_number, [3, 6, ((0, 2), ())], [(InvalidNumber, BAD_NUMBERS + (0, 6)), (InvalidNumber, BAD_NUMBERS + (0, 7)), lots])
        self.refuses(single_number, [1, 1, ((0,),)], [(InvalidNumber, BAD_NUMBERS + (0, 6)), (InvalidNumber, BAD_NUMBERS + (0, 7)), lots])
        # A place that is below the number of places in one of both calls alone.
        self.fails(InvalidOperation, least_lots, (1, 1), ((2,),))
        self.assertEqual(least_lots((1, 1, 1), ((2,),)), ((2,),))
        # There is at least one place, and one lot.
        for weights, lots in (((), ((),)), ((1,), ()), ((), ())):
            self.fails(InvalidOperation, least_lots, weights, lots)


class NotTrue(Case):
    """[19.5]."""

    def test_fewer_draws_can_do(self):
        goods, mix = ((1, 1, 0, 0), (1, 0, 1, 0), (1, 0, 0, 1)), (4, (1, 1, 1, 1))
        self.assertEqual((needed(goods, mix), least_draws(goods)), (2, 1))

    def test_shifts_can_cover_where_it_is_open(self):
        self.assertEqual(shifts_answer(2, (0, 1), 2), ("open",))
        self.assertIs(is_cover(2, (0, 1), 2, (0, 2)), True)

    def test_no_lot_need_have_all_tied_places(self):
        lots = ((0,), (1,))
        self.assertEqual([is_tied((1, 1), lots, place) for place in (0, 1)], [True, True])
        self.assertEqual(least_lots((1, 1), lots), lots)

    def test_judges_take_no_junk(self):
        for value in JUNK:
            self.assertIs(is_most(GOODS, 3, value), False)
            self.assertIs(is_cover(2, (0, 1), 2, value), False)


if __name__ == "__main__":
    unittest.main()
