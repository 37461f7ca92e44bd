"""[16.1] to [16.5]: maps that seldom meet. What is told is worked out here by the words of the document."""

import random
import unittest
from fractions import Fraction
from itertools import combinations, permutations, product

from hardbits.errors import InvalidDraw, InvalidMaps, InvalidNumber, TooMany
from hardbits.near.maps import (affine_maps, are_even, chance_of_meeting, field_maps, is_meets_answer, least_meeting,
                                leftover, leftover_parts, linear_maps, mean_distance, mean_meeting, meets_answer, spread)
from tests.support import BAD_NUMBERS, BAD_ROWS, Case, DEEP, HUGE, JUNK, LONG, is_least
from tests.test_cores import values
from tests.test_draws import all_words, number_of
from tests.test_fractions import pair

BAD_M = BAD_NUMBERS + (0, 17)
# Wrong maps of three points with values below 2, and one such map alone.
BAD_MAPS = (None, 1, True, (), ((),), (0, 1, 0), [(0, 1, 0)], ([0, 1, 0],), ((0,),), ((0, 1, 0), (0, 1)), ((0, 1), (0, 1, 0)),
            ((0, 2, 0),), ((0, -1, 0),), ((0, True, 0),), ((0, 1, None),), ((0, 1, 0), None), ((0, 1, (0,)),), "010", ("010",), {},
            ((0, 1, HUGE),), ((0,) * 33,), ((0, 1, 0),) * 65, ((0, 1, 0), [0, 1, 0]), DEEP)
BAD_VALUES = (None, 1, True, (), (0,), [0, 1, 0], (0, 2, 0), (0, -1, 0), (0, True, 0), (0, 1, None), ((0, 1, 0),), "010", {},
              (0, HUGE, 0), (0,) * 33, DEEP)
BAD_POINTS = BAD_NUMBERS + (3,)
BAD_DRAWS = BAD_ROWS + ((1, (1,)), (1, (1, 0)), (1, (1, 0, 0, 0)), (1, (1, 1, 0)), (2, (1, 0, 0)), (1, (2, -1, 0)), (1, (0, 0, 0)))
THREE = ((0, 1, 0), (1, 1, 0))
MEET = ((0, 0, 1), (0, 0, 1), (0, 1, 1), (1, 0, 0))


def chance(maps, one, other):
    return Fraction(sum(values_of[one] == values_of[other] for values_of in maps), len(maps))


def unlike(points):
    return list(combinations(range(points), 2))


def mean_by_words(maps):
    pairs = unlike(len(maps[0]))
    return sum(chance(maps, one, other) for one, other in pairs) / len(pairs)


def often(M, maps):
    return [two for two in unlike(len(maps[0])) if chance(maps, *two) > Fraction(1, M)]


def even_by_words(M, maps):
    for one, other in permutations(range(len(maps[0])), 2):
        for first, second in product(range(M), repeat=2):
            count = sum(values_of[one] == first and values_of[other] == second for values_of in maps)
            if Fraction(count, len(maps)) != Fraction(1, M * M):
                return False
    return True


def spread_by_words(M, values_of, p):
    return [sum(weight for goal, weight in zip(values_of, values(p)) if goal == value) for value in range(M)]


def leftover_by_words(M, maps, p):
    return sum(sum((weight - Fraction(1, M)) ** 2 for weight in spread_by_words(M, values_of, p)) for values_of in maps) / len(maps)


def distance_by_words(M, maps, p):
    return sum(sum(abs(weight - Fraction(1, M)) for weight in spread_by_words(M, values_of, p)) / 2 for values_of in maps) / len(maps)


def parts_by_words(M, maps, p):
    weights = values(p)
    both = sum(weights[x] * weights[y] * (chance(maps, x, y) - Fraction(1, M)) for x, y in permutations(range(len(weights)), 2))
    return (1 - Fraction(1, M)) * sum(weight ** 2 for weight in weights), both


def some_maps(seed, many=40, most=5):
    """Drawn maps, also with one value alone, one map alone, a map twice, and those that seldom meet or are even."""
    source = random.Random(seed)
    for k in range(many):
        M, points = source.choice((1, 2, 3, 4, 16)), source.randint(2, most)
        top = M if k % 4 else 1
        maps = [tuple(source.randrange(top) for _ in range(points)) for _ in range(source.choice((1, 1, 2, 3, 6)))]
        yield M, tuple(maps + maps[:k % 2])
    yield from ((2 ** m, linear_maps(n, m)) for n, m in ((1, 1), (2, 1), (1, 2), (2, 2), (3, 1), (1, 4)))
    yield from ((2 ** m, affine_maps(n, m)) for n, m in ((1, 1), (2, 1), (1, 2), (2, 2)))
    yield from ((q, field_maps(q)) for q in (2, 3, 5))


def some_draws(source, points):
    """Even draws, draws of one point alone, and drawn ones, also in long terms."""
    yield (points, (1,) * points)
    yield (1, (1,) + (0,) * (points - 1))
    for factor in (1, 4, LONG):
        weights = [source.randint(0, 5) for _ in range(points)]
        weights[source.randrange(points)] += 1
        yield (sum(weights) * factor, tuple(weight * factor for weight in weights))


class Meeting(Case):

    def test_chances(self):
        for M, maps in some_maps(1):
            points = len(maps[0])
            for one, other in product(range(points), repeat=2):
                self.assertEqual(chance_of_meeting(M, maps, one, other), pair(chance(maps, one, other)))
            for point in range(points):
                self.assertEqual(chance_of_meeting(M, maps, point, point), (1, 1))
            self.assertEqual(mean_meeting(M, maps), pair(mean_by_words(maps)))

    def test_greatest_sizes(self):
        source = random.Random(2)
        maps = tuple(tuple(source.randrange(16) for _ in range(32)) for _ in range(64))
        self.assertEqual(chance_of_meeting(16, maps, 31, 0), pair(chance(maps, 31, 0)))
        self.assertEqual(mean_meeting(16, maps), pair(mean_by_words(maps)))
        self.assertEqual(meets_answer(16, maps)[0], "pair")
        self.assertIn(meets_answer(16, maps)[1:], often(16, maps))
        self.assertIs(are_even(16, maps), False)
        p = (32, (1,) * 32)
        self.assertEqual(leftover(16, maps, p), pair(leftover_by_words(16, maps, p)))
        self.assertEqual(leftover_parts(16, maps, p), tuple(map(pair, parts_by_words(16, maps, p))))
        self.assertEqual(mean_distance(16, maps, p), pair(distance_by_words(16, maps, p)))
        same = ((15,) * 32,) * 64
        self.assertEqual((chance_of_meeting(16, same, 0, 31), mean_meeting(16, same)), ((1, 1), (1, 1)))
        self.assertEqual(mean_meeting(1, ((0, 0),)), (1, 1))

    def test_just_one(self):
        kinds = {"seldom": 0, "pair": 0}
        for M, maps in some_maps(3, 80):
            pairs, points = often(M, maps), len(maps[0])
            answer = meets_answer(M, maps)
            kinds[answer[0]] += 1
            self.assertEqual(answer[0], "pair" if pairs else "seldom")
            self.assertIs(is_meets_answer(M, maps, answer), True)
            self.assertIs(is_meets_answer(M, maps, ("seldom",)), not pairs)
            for one, other in product(range(-1, points + 1), repeat=2):
                self.assertIs(is_meets_answer(M, maps, ("pair", one, other)), (one, other) in pairs)
            if pairs:
                self.assertIn(answer[1:], pairs)
        self.assertGreater(min(kinds.values()), 20)

    def test_just_at_the_chance(self):
        # Points 0 and 1 meet by two of four maps, the others by one or two of them.
        self.assertEqual(often(2, ((0, 0, 1), (0, 0, 1), (0, 1, 1), (1, 0, 0))), [])
        self.assertEqual(meets_answer(2, MEET), ("seldom",))
        self.assertEqual(meets_answer(3, MEET)[0], "pair")
        self.assertEqual(meets_answer(2, MEET + ((1, 1, 0),)), ("pair", 0, 1))
        self.assertEqual(meets_answer(1, ((0, 0),)), ("seldom",))
        self.assertIs(are_even(1, ((0, 0),)), True)
        self.assertEqual(meets_answer(16, ((0, 1),)), ("seldom",))

    def test_near_values(self):
        bad = (("pair", 1, 0), ("pair", 0, 0), ("pair", 0, 3), ("pair", -1, 1), ("pair", 0, HUGE), ("pair", 0, LONG), ("pair", (0, 1)),
               ("seldom", 0), ("seldom", ()), ("seldom", 0, 1), ("pair",), ("pair", 0), ("pair", 0, 1, 2), ("pair", None, 1), ("pair", 0, DEEP),
               ("pair", 0, (1,)), "seldom", ("few",))
        self.judged(is_meets_answer, (3, MEET), (("pair", 0, 1), ("pair", 1, 2)), bad + (("pair", 0, 2), ("seldom",)))
        self.judged(is_meets_answer, (2, MEET), (("seldom",),), bad + (("pair", 0, 1), ("pair", 1, 2), ("pair", 0, 2)))

    def test_errors(self):
        bad = [(InvalidNumber, BAD_M), (InvalidMaps, BAD_MAPS)]
        points = [(InvalidNumber, BAD_POINTS), (InvalidNumber, BAD_POINTS)]
        self.refuses(chance_of_meeting, [2, THREE, 0, 2], bad + points)
        self.refuses(chance_of_meeting, [2, THREE, 2, 2], bad + points)
        for call in (mean_meeting, meets_answer, are_even):
            self.refuses(call, [2, THREE], bad)
            self.refuses(call, [2, THREE * 32], bad)
        self.refuses(is_meets_answer, [2, THREE, None], bad + [None])
        # A value must be below M, whatever M is.
        self.fails(InvalidMaps, mean_meeting, 1, THREE)
        self.fails(InvalidMaps, mean_meeting, 16, ((16, 0),))
        self.assertEqual(mean_meeting(16, ((15, 15),)), (1, 1))


class Even(Case):

    def test_are_even(self):
        found = {True: 0, False: 0}
        for M, maps in some_maps(10):
            told = are_even(M, maps)
            self.assertIs(told, even_by_words(M, maps))
            found[told] += 1
            if told:
                self.assertEqual(meets_answer(M, maps), ("seldom",))
        self.assertGreater(min(found.values()), 5)

    def test_all_values_alone_are_not_enough(self):
        # Each point has each value equally often, but the values of two points hang together.
        self.assertIs(are_even(2, ((0, 0), (1, 1))), False)
        self.assertIs(are_even(2, ((0, 0), (0, 1), (1, 0), (1, 1))), True)
        self.assertIs(are_even(2, ((0, 0), (0, 1), (1, 0), (1, 1)) * 16), True)
        self.assertIs(are_even(2, ((0, 0), (0, 1), (1, 0))), False)
        # Both ways are asked for: one value ahead of the other, and behind it.
        self.assertIs(are_even(2, ((0, 0), (0, 1), (0, 1), (1, 1))), False)


class Spreads(Case):

    def test_spreads(self):
        source = random.Random(20)
        for M, maps in some_maps(20):
            for p in some_draws(source, len(maps[0])):
                for values_of in maps:
                    told = spread(M, values_of, p)
                    self.assertEqual(values(told), spread_by_words(M, values_of, p))
                    self.assertTrue(is_least(told))
                    self.assertEqual(sum(told[1]), told[0])

    def test_leftovers(self):
        source = random.Random(21)
        for M, maps in some_maps(21):
            for p in some_draws(source, len(maps[0])):
                told, parts = leftover(M, maps, p), leftover_parts(M, maps, p)
                self.assertEqual(told, pair(leftover_by_words(M, maps, p)))
                self.assertEqual(parts, tuple(map(pair, parts_by_words(M, maps, p))))
                # The leftover is the sum of both parts.
                self.assertEqual(Fraction(*told), Fraction(*parts[0]) + Fraction(*parts[1]))
                if not often(M, maps):
                    self.assertLessEqual(Fraction(*told), (1 - Fraction(1, M)) * sum(weight ** 2 for weight in values(p)))

    def test_distances(self):
        source = random.Random(22)
        for M, maps in some_maps(22):
            for p in some_draws(source, len(maps[0])):
                told = mean_distance(M, maps, p)
                self.assertEqual(told, pair(distance_by_words(M, maps, p)))
                self.assertLessEqual((2 * Fraction(*told)) ** 2, M * Fraction(*leftover(M, maps, p)))

    def test_draws_of_any_length(self):
        p = (2 * LONG, (LONG, 0, LONG))
        self.assertEqual(spread(2, (0, 1, 0), p), (1, (1, 0)))
        self.assertEqual(leftover(2, THREE, p), (1, 4))
        self.assertEqual(leftover_parts(2, THREE, p), ((1, 4), (0, 1)))
        self.assertEqual(mean_distance(2, THREE, p), (1, 4))

    def test_errors(self):
        bad = [(InvalidNumber, BAD_M), (InvalidMaps, BAD_MAPS), (InvalidDraw, BAD_DRAWS)]
        for call in (leftover, leftover_parts, mean_distance):
            self.refuses(call, [2, THREE, (2, (1, 0, 1))], bad)
            below = tuple(value for value in BAD_MAPS if value != ((0, 2, 0),))
            self.refuses(call, [16, THREE, (LONG, (LONG, 0, 0))], [bad[0], (InvalidMaps, below), bad[2]])
        self.refuses(spread, [2, (0, 1, 0), (2, (1, 0, 1))], [bad[0], (InvalidMaps, BAD_VALUES), bad[2]])


class Least(Case):

    def test_least_meeting(self):
        for points in range(2, 33):
            for M in range(1, 17):
                counts = [len(range(value, points, M)) for value in range(M)]
                wanted = Fraction(sum(count * (count - 1) for count in counts), points * (points - 1))
                self.assertEqual(least_meeting(points, M), pair(wanted))
                self.assertGreaterEqual(wanted, Fraction(points - M, M * (points - 1)))
                self.assertEqual(wanted == 0, M >= points)
        self.refuses(least_meeting, [32, 16], [(InvalidNumber, BAD_NUMBERS + (0, 1, 33)), (InvalidNumber, BAD_M)])
        self.refuses(least_meeting, [2, 1], [(InvalidNumber, BAD_NUMBERS + (0, 1, 33)), (InvalidNumber, BAD_M)])

    def test_no_less(self):
        # Over all single maps the mean is the least one just where values come equally often, or differ by one.
        for points, M in ((2, 1), (2, 2), (3, 2), (4, 2), (5, 2), (4, 3), (5, 3), (3, 4), (4, 4)):
            least = Fraction(*least_meeting(points, M))
            for values_of in product(range(M), repeat=points):
                counts = [values_of.count(value) for value in range(M)]
                told = Fraction(*mean_meeting(M, (values_of,)))
                self.assertGreaterEqual(told, least)
                self.assertEqual(told == least, max(counts) - min(counts) <= 1)
        for M, maps in some_maps(31):
            least = Fraction(*least_meeting(len(maps[0]), M))
            told = Fraction(*mean_meeting(M, maps))
            self.assertGreaterEqual(told, least)
            counts = [[values_of.count(value) for value in range(M)] for values_of in maps]
            self.assertEqual(told == least, all(max(one) - min(one) <= 1 for one in counts))


def linear_by_words(n, m):
    found = set()
    for table in product(all_words(n), repeat=m):
        found.add(tuple(number_of(tuple(sum(one * other for one, other in zip(row, x)) % 2 for row in table)) for x in all_words(n)))
    return tuple(sorted(found))


class Bits(Case):

    def test_linear_maps(self):
        for n in range(1, 6):
            for m in range(1, 5):
                if n * m > 6:
                    self.fails_for(TooMany, 64, linear_maps, n, m)
                    continue
                told = linear_maps(n, m)
                self.assertEqual(told, linear_by_words(n, m))
                self.assertEqual(len(told), 2 ** (n * m))
                self.assertEqual(meets_answer(2 ** m, told), ("seldom",))

    def test_affine_maps(self):
        for n in range(1, 6):
            for m in range(1, 5):
                if n * m + m > 6:
                    self.fails_for(TooMany, 64, affine_maps, n, m)
                    continue
                told = affine_maps(n, m)
                wanted = {tuple(value ^ added for value in values_of) for values_of in linear_by_words(n, m) for added in range(2 ** m)}
                self.assertEqual(told, tuple(sorted(wanted)))
                self.assertEqual(len(told), 2 ** (n * m + m))
                self.assertIs(are_even(2 ** m, told), True)

    def test_just_64(self):
        for n, m in ((3, 2), (2, 3)):
            self.assertEqual(len(linear_maps(n, m)), 64)
        for n, m in ((5, 1), (2, 2), (1, 3)):
            self.assertEqual(len(affine_maps(n, m)), 64)

    def test_bits_are_read_by_numbers(self):
        # The row (0, 1) reads bit 1 of a word; as row 1 of two it makes bit 1 of the value.
        self.assertIn((0, 0, 2, 2), linear_maps(2, 2))
        self.assertIn((1, 3, 0, 2), affine_maps(2, 2))
        self.assertEqual(linear_maps(1, 4)[-1], (0, 15))

    def test_field_maps(self):
        for q in (2, 3, 5, 7):
            wanted = {tuple((a * x + b) % q for x in range(q)) for a, b in product(range(q), repeat=2)}
            told = field_maps(q)
            self.assertEqual(told, tuple(sorted(wanted)))
            self.assertEqual(len(told), q * q)
            self.assertIs(are_even(q, told), True)

    def test_errors(self):
        bits, values_bits = (InvalidNumber, BAD_NUMBERS + (0, 6)), (InvalidNumber, BAD_NUMBERS + (0, 5))
        limit = [([5, 4], TooMany, 64), ([4, 2], TooMany, 64)]
        self.refuses(linear_maps, [3, 2], [bits, values_bits], limit)
        self.refuses(affine_maps, [5, 1], [bits, values_bits], limit + [([3, 2], TooMany, 64)])
        self.refuses(field_maps, [7], [(InvalidNumber, BAD_NUMBERS + (0, 1, 4, 6, 8, 9, 11, 13))])
        for value in JUNK:
            if value not in (1, True):
                self.fails(InvalidNumber, linear_maps, value, 1)


class NotTrue(Case):
    """[16.5]."""

    def test_maps_that_seldom_meet_need_not_be_even(self):
        maps = linear_maps(2, 1)
        self.assertEqual((meets_answer(2, maps), are_even(2, maps)), (("seldom",), False))

    def test_all_chances_can_be_below(self):
        maps = ((0, 1),)
        self.assertLess(chance(maps, 0, 1), Fraction(1, 2))
        self.assertEqual(chance_of_meeting(2, maps, 0, 1), (0, 1))


if __name__ == "__main__":
    unittest.main()
