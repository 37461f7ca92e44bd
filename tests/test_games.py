"""[3.1] to [3.5]: games. What is told is worked out here from pays, which show by themselves that it is right."""

import random
import unittest
from fractions import Fraction
from itertools import combinations

from hardbits.errors import InvalidFraction, InvalidMix, InvalidOperation
from hardbits.game.games import (MOST_COLUMNS, MOST_ROWS, bound_answer, column_pay, is_bound_answer, is_small_answer,
                                 is_worth_answer, row_pay, small_answer, worth, worth_answer)
from tests.support import BAD_FRACTIONS, BAD_ROWS, Case, DEEP, HUGE, LONG, is_least
from tests.test_fractions import pair

PENNIES, LEADS = (1, ((1, -1), (-1, 1))), (1, ((2, 0), (0, 3)))
SCISSORS = (1, ((0, 1, -1), (-1, 0, 1), (1, -1, 0)))
BAD_GAMES = (None, 1, True, (), (1,), (1, ()), (1, ((),)), (1, ((), ())), (1, ((1,),), 1), (1, (None, (1,))),
             (1, (1, (2,))), (1, ([1], (2,))), [1, ((1,),)], (1, [(1,)]),
             (1, ([1],)), (1, (1,)), (1, 1), (0, ((1,),)), (-1, ((1,),)), (True, ((1,),)), (None, ((1,),)),
             ((1,), ((1,),)), (10 ** 9, ((1,),)), (1, ((10 ** 9,),)), (1, ((-10 ** 9,),)), (1, ((HUGE,),)),
             (1, ((1, 10 ** 9), (2, 3))), (1, ((1, 2), (HUGE, 3))), (1, ((True,),)), (1, ((1, None),)), (1, ((1, 2), (3,))), (1, ((1,), (2, 3))), (1, ((1, 2), None)),
             (1, ((1,),) * 25), (1, ((1,) * 33,)), (1, (((1,),),)), DEEP, {}, "game")
BAD_MIXES = BAD_ROWS + ((1, (1,)), (1, (1, 0, 0)), (1, (1, 1)), (2, (1, 0)), (1, (2, -1)), (1, (0, 0)), (3, (1, 1)))


def values(row):
    return [Fraction(number, row[0]) for number in row[1]]


def numbers(table):
    return [[Fraction(number, table[0]) for number in row] for row in table[1]]


def is_mix(value, count):
    """Whether the value is a mix, by the words of [0.7]."""
    return len(value[1]) == count and value[0] >= 1 and min(value[1]) >= 0 and sum(value[1]) == value[0]


def row_pays(table, x):
    weights, rows = values(x), numbers(table)
    return [sum(weight * row[j] for weight, row in zip(weights, rows)) for j in range(len(rows[0]))]


def column_pays(table, y):
    weights = values(y)
    return [sum(weight * number for weight, number in zip(weights, row)) for row in numbers(table)]


def transposed(table):
    """Rows and columns exchanged and all signs turned."""
    return (table[0], tuple(tuple(-number for number in column) for column in zip(*table[1])))


def some_games(seed, count, most=5):
    source = random.Random(seed)
    for _ in range(count):
        rows, columns = source.randint(1, most), source.randint(1, most)
        low, high = source.choice(((-1, 1), (0, 1), (-9, 9), (-3, -1), (-999999999, 999999999)))
        bottom = source.choice((1, 2, 3, 999999999))
        yield (bottom, tuple(tuple(source.randint(low, high) for _ in range(columns)) for _ in range(rows)))


def large_games():
    source = random.Random(5)
    yield (999999999, tuple(tuple(source.randint(-999999999, 999999999) for _ in range(32)) for _ in range(24)))
    yield (1, tuple(tuple(source.choice((-1, 1)) for _ in range(32)) for _ in range(24)))
    yield (1, tuple(tuple(source.choice((-1, 0, 0, 1)) for _ in range(32)) for _ in range(24)))
    yield (1, tuple(tuple(1 if i == j else 0 for j in range(24)) for i in range(24)))
    yield (1, ((0,) * 32,) * 24)
    yield (7, tuple((k,) for k in range(24)))
    yield (7, (tuple(range(32)),))
    # With the first of all gains taken, this one leads through some 100,000 turns.
    yield (1, tuple(tuple(2 ** (23 - i) * (2 if j < i else 1 if j == i else 0) for j in range(24)) for i in range(24)))


def some_mix(source, count):
    weights = [source.randint(0, 3) for _ in range(count)]
    weights[source.randrange(count)] += 1
    return (sum(weights), tuple(weights))


class Pays(Case):

    def test_constants(self):
        self.assertEqual((MOST_ROWS, MOST_COLUMNS), (24, 32))

    def test_pays(self):
        source = random.Random(1)
        for table in some_games(1, 40):
            x, y = some_mix(source, len(table[1])), some_mix(source, len(table[1][0]))
            for told, wanted in ((row_pay(table, x), row_pays(table, x)),
                                 (column_pay(table, y), column_pays(table, y))):
                self.assertEqual(values(told), wanted)
                self.assertTrue(is_least(told))
            one = sum(a * b for a, b in zip(values(row_pay(table, x)), values(y)))
            self.assertEqual(one, sum(a * b for a, b in zip(values(column_pay(table, y)), values(x))))

    def test_mixes_in_any_terms(self):
        self.assertEqual(row_pay(LEADS, (10, (6, 4))), (5, (6, 6)))
        self.assertEqual(column_pay(LEADS, (LONG * 2, (LONG, LONG))), (2, (2, 3)))
        self.assertEqual(row_pay((4, ((2, 4), (6, 8))), (1, (0, 1))), (2, (3, 4)))

    def test_errors(self):
        table, mix = (InvalidOperation, BAD_GAMES), (InvalidMix, BAD_MIXES)
        self.refuses(row_pay, [(1, ((1, 2, 3), (4, 5, 6))), (2, (1, 1))], [table, mix])
        self.refuses(column_pay, [(1, ((1, 2), (4, 5), (6, 7))), (2, (1, 1))], [table, mix])
        for call in (worth, worth_answer, small_answer):
            self.refuses(call, [LEADS], [table])
        self.refuses(is_worth_answer, [LEADS, None], [table, None])
        self.refuses(is_small_answer, [LEADS, None], [table, None])
        self.refuses(bound_answer, [LEADS, (1, 2)], [table, (InvalidFraction, BAD_FRACTIONS)])
        self.refuses(is_bound_answer, [LEADS, (1, 2), None], [table, (InvalidFraction, BAD_FRACTIONS), None])


class Worths(Case):

    def check_worth(self, table):
        kind, v, x, y = answer = worth_answer(table)
        self.assertEqual((kind, v), ("worth", worth(table)))
        self.assertTrue(is_mix(x, len(table[1])) and is_mix(y, len(table[1][0])))
        self.assertEqual(min(row_pays(table, x)), Fraction(*v))
        self.assertEqual(max(column_pays(table, y)), Fraction(*v))
        self.assertEqual(v, pair(Fraction(*v)))
        self.assertIs(is_worth_answer(table, answer), True)

    def test_worths(self):
        for table in some_games(2, 150):
            self.check_worth(table)

    def test_large_games(self):
        for table in large_games():
            self.check_worth(table)
            if len(table[1][0]) <= 24:
                self.check_worth(transposed(table))

    def test_known_worths(self):
        self.assertEqual(worth(PENNIES), (0, 1))
        self.assertEqual(worth(SCISSORS), (0, 1))
        self.assertEqual(worth((3, ((-7,),))), (-7, 3))
        self.assertEqual(worth((2, ((4, 1, 3),))), (1, 2))
        self.assertEqual(worth((2, ((4,), (-1,), (3,)))), (2, 1))
        self.assertEqual(worth((1, ((0,) * 32,) * 24)), (0, 1))

    def test_two_by_two(self):
        source = random.Random(3)
        for _ in range(200):
            a, b, c, d = [source.randint(-4, 4) for _ in range(4)]
            low, high = max(min(a, b), min(c, d)), min(max(a, c), max(b, d))
            wanted = Fraction(low) if low == high else Fraction(a * d - b * c, a + d - b - c)
            self.assertEqual(worth((3, ((a, b), (c, d)))), pair(wanted / 3))

    def test_judge_of_worths(self):
        right = (("worth", (6, 5), (5, (3, 2)), (5, (3, 2))), ("worth", (6, 5), (10, (6, 4)),
                                                               (5 * LONG, (3 * LONG, 2 * LONG))))
        wrong = (("worth", (6, 5), (2, (1, 1)), (5, (3, 2))), ("worth", (6, 5), (5, (3, 2)), (2, (1, 1))),
                 ("worth", (12, 10), (5, (3, 2)), (5, (3, 2))), ("worth", (1, 1), (5, (3, 2)), (5, (3, 2))),
                 ("worth", (7, 5), (5, (3, 2)), (5, (3, 2))), ("worth", (6, 5), (5, (3, 3)), (5, (3, 2))),
                 ("worth", (6, 5), (5, (3, 2)), (6, (3, 2))), ("worth", (6, 5), (5, (3, 2, 0)), (5, (3, 2))),
                 ("worth", (6, 5), (5, (3, 2))), ("worth", (6, 5), (-5, (-3, -2)), (5, (3, 2))),
                 ("rows", (6, 5), (5, (3, 2)), (5, (3, 2))))
        self.judged(is_worth_answer, (LEADS,), right, wrong)
        flat = (1, ((2, 2), (2, 2)))
        self.judged(is_worth_answer, (flat,), [("worth", (2, 1), x, y) for x in ((1, (1, 0)), (2, (1, 1)), (7, (3, 4)))
                                               for y in ((1, (0, 1)), (3, (1, 2)))])


class Bounds(Case):

    def check_bound(self, table, v, most):
        kind, mix = answer = bound_answer(table, v)
        bound = Fraction(*v)
        self.assertIs(is_bound_answer(table, v, answer), True)
        self.assertEqual(kind, "rows" if most >= bound else "columns")
        if kind == "rows":
            self.assertTrue(is_mix(mix, len(table[1])))
            self.assertGreaterEqual(min(row_pays(table, mix)), bound)
        else:
            self.assertTrue(is_mix(mix, len(table[1][0])))
            self.assertLess(max(column_pays(table, mix)), bound)

    def test_just_one_of_both(self):
        source = random.Random(4)
        for table in some_games(6, 60, 4):
            _, told, x, y = worth_answer(table)
            most = Fraction(*told)
            if most.denominator > 10 ** 8 or abs(most.numerator) > 10 ** 8:
                continue
            for bound in (most - 1, most - Fraction(1, 7), most, most + Fraction(1, 7), most + 1):
                v = pair(bound)
                self.check_bound(table, v, most)
                for _ in range(4):
                    rows, columns = some_mix(source, len(table[1])), some_mix(source, len(table[1][0]))
                    self.assertIs(is_bound_answer(table, v, ("rows", rows)), min(row_pays(table, rows)) >= bound)
                    self.assertIs(is_bound_answer(table, v, ("columns", columns)),
                                  max(column_pays(table, columns)) < bound)
                self.assertIs(is_bound_answer(table, v, ("rows", x)), bound <= most)
                self.assertIs(is_bound_answer(table, v, ("columns", y)), bound > most)

    def test_near_values(self):
        right = (("rows", (5, (3, 2))), ("rows", (5 * LONG, (3 * LONG, 2 * LONG))))
        wrong = (("rows", (2, (1, 1))), ("rows", (5, (2, 3))), ("columns", (5, (3, 2))), ("rows", (5, (3, 2, 0))),
                 ("rows", (5, (3, 1))), ("rows", (1, (3, 2))), ("rows", (-5, (-3, -2))), ("rows", (5, (4, 2))))
        self.judged(is_bound_answer, (LEADS, (6, 5)), right, wrong)
        right = (("columns", (5, (3, 2))), ("columns", (10 * LONG, (6 * LONG + 1, 4 * LONG - 1))),
                 ("columns", (13, (8, 5))))
        wrong = (("columns", (12, (7, 5))), ("columns", (1, (1, 0))), ("columns", (8, (5, 3))), ("rows", (5, (3, 2))),
                 ("columns", (5, (3, 2), 0)))
        self.judged(is_bound_answer, (LEADS, (5, 4)), right, wrong)


class Small(Case):

    def is_small(self, table, value):
        """Whether the value is rows, columns and best mixes as in [3.4]."""
        rows, columns, x, y = value
        v = Fraction(*worth(table))
        at_columns, at_rows = row_pays(table, x), column_pays(table, y)
        return (len(rows) == len(columns) >= 1 and is_mix(x, len(table[1])) and is_mix(y, len(table[1][0]))
                and min(at_columns) >= v and max(at_rows) <= v
                and all(number == 0 for k, number in enumerate(x[1]) if k not in rows)
                and all(number == 0 for k, number in enumerate(y[1]) if k not in columns)
                and all(at_columns[k] == v for k in columns) and all(at_rows[k] == v for k in rows))

    def test_small_answers(self):
        for table in list(some_games(7, 120)) + list(large_games()):
            answer = small_answer(table)
            self.assertTrue(self.is_small(table, answer), (table, answer))
            self.assertIs(is_small_answer(table, answer), True)
            self.assertEqual([list(lot) for lot in answer[:2]], [sorted(set(lot)) for lot in answer[:2]])

    def test_the_judge_by_the_words(self):
        for table in list(some_games(8, 25, 3)) + [SCISSORS, (1, ((1, 1), (1, 1))), (1, ((0, 0, 1), (0, 0, 1)))]:
            mixes = [(mix, [some for some in self.mixes(len(mix))]) for mix in (table[1], table[1][0])]
            lots = [self.lots(len(mix)) for mix, _ in mixes]
            for x in mixes[0][1] + [worth_answer(table)[2]]:
                for y in mixes[1][1] + [worth_answer(table)[3]]:
                    for rows in lots[0]:
                        for columns in lots[1]:
                            value = (rows, columns, x, y)
                            self.assertIs(is_small_answer(table, value), self.is_small(table, value), (table, value))

    def mixes(self, count):
        if count == 1:
            return [(1, (1,)), (5, (5,))]
        if count == 2:
            return [(1, (1, 0)), (1, (0, 1)), (2, (1, 1))]
        return [(1, (0, 0, 1)), (3, (1, 1, 1)), (2, (1, 1, 0)), (1, (1, 0, 0))]

    def lots(self, count):
        return [lot for size in range(count + 1) for lot in combinations(range(count), size)]

    def test_near_values(self):
        right = (((0, 1), (0, 1), (5, (3, 2)), (5, (3, 2))), ((0, 1), (0, 1), (5 * LONG, (3 * LONG, 2 * LONG)),
                                                              (10, (6, 4))))
        wrong = (((1, 0), (0, 1), (5, (3, 2)), (5, (3, 2))), ((0, 1), (1, 0), (5, (3, 2)), (5, (3, 2))),
                 ((0, 2), (0, 1), (5, (3, 2)), (5, (3, 2))), ((0, 1), (-1, 1), (5, (3, 2)), (5, (3, 2))),
                 ((0, 0), (0, 1), (5, (3, 2)), (5, (3, 2))), ((0,), (0,), (5, (3, 2)), (5, (3, 2))),
                 ((0, 1), (0, 1), (5, (2, 3)), (5, (3, 2))), ((0, 1), (0, 1), (5, (3, 2)), (5, (2, 3))),
                 ((0, 1), (0, 1), (5, (3, 2))), ((), (), (5, (3, 2)), (5, (3, 2))),
                 ((0, 1, HUGE), (0, 1), (5, (3, 2)), (5, (3, 2))))
        self.judged(is_small_answer, (LEADS,), right, wrong)


class Changes(Case):
    """[3.3] and [3.5]."""

    def test_added_and_scaled(self):
        for table in some_games(9, 40, 4):
            v = Fraction(*worth(table))
            if max(abs(number) for row in table[1] for number in row) > 100:
                continue
            more = (table[0], tuple(tuple(number + 5 for number in row) for row in table[1]))
            self.assertEqual(Fraction(*worth(more)), v + Fraction(5, table[0]))
            for factor in (0, 1, 7):
                much = (table[0], tuple(tuple(number * factor for number in row) for row in table[1]))
                self.assertEqual(Fraction(*worth(much)), v * factor)

    def test_exchanged(self):
        for table in some_games(10, 60):
            self.assertEqual(Fraction(*worth(transposed(table))), -Fraction(*worth(table)))

    def test_rows_and_columns_further(self):
        for table in some_games(11, 40):
            bottom, rows = table
            v = Fraction(*worth(table))
            self.assertGreaterEqual(Fraction(*worth((bottom, rows + (rows[0][::-1],)))), v)
            wider = tuple(row + (row[0] - 1 if row[0] > -10 ** 9 + 1 else row[0],) for row in rows)
            self.assertLessEqual(Fraction(*worth((bottom, wider))), v)
            lesser = tuple(max(number - k, -999999999) for k, number in enumerate(rows[0]))
            self.assertEqual(Fraction(*worth((bottom, rows + (lesser,)))), v)

    def test_pairs_of_games(self):
        for one, other in zip(some_games(12, 60, 3), some_games(13, 60, 3)):
            if max(abs(number) for table in (one, other) for row in table[1] for number in row) > 100:
                continue
            if one[0] > 3 or other[0] > 3:
                continue
            both = tuple(tuple(a * other[0] + b * one[0] for a in row for b in line) for row in one[1]
                         for line in other[1])
            wanted = Fraction(*worth(one)) + Fraction(*worth(other))
            self.assertEqual(worth((one[0] * other[0], both)), pair(wanted))

    def test_places_on_the_diagonal(self):
        source = random.Random(14)
        for size in (1, 2, 3, 7, 24):
            along = [source.randint(1, 9) for _ in range(size)]
            table = (2, tuple(tuple(along[i] if i == j else 0 for j in range(size)) for i in range(size)))
            self.assertEqual(worth(table), pair(1 / sum(Fraction(2, number) for number in along)))

    def test_turned_signs(self):
        source = random.Random(15)
        for size in (1, 2, 4, 9, 24):
            upper = {(i, j): source.randint(-5, 5) for j in range(size) for i in range(j)}
            rows = tuple(tuple(0 if i == j else upper[i, j] if i < j else -upper[j, i] for j in range(size))
                         for i in range(size))
            self.assertEqual(worth((1, rows)), (0, 1))

    def test_what_is_not_true(self):
        self.assertNotIn(worth(LEADS), ((2, 1), (0, 1), (3, 1)))
        flat = (1, ((1, 1), (1, 1)))
        best = (("worth", (1, 1), (1, (1, 0)), (2, (1, 1))), ("worth", (1, 1), (1, (0, 1)), (2, (1, 1))))
        self.assertTrue(all(is_worth_answer(flat, value) for value in best))


if __name__ == "__main__":
    unittest.main()
