"""[6.1] to [6.5]: told rounds. What is told is worked out here by the words of the document."""

import random
import unittest
from fractions import Fraction

from hardbits.core.cores import core_answer, is_core_answer
from hardbits.core.rounds import falls, heights, is_run, most_rounds, next_of, run, weights_at
from hardbits.errors import InvalidFamily, InvalidFraction, InvalidOperation, InvalidTruth, TooMany
from tests.support import BAD_FRACTIONS, Case, DEEP, DEEP_LIST, HUGE, JUNK, LONG, is_least
from tests.test_cores import BAD_FAMILIES_ON_THREE, EDGES, SHARES, is_measure, some_cases, sums, values
from tests.test_fractions import pair
from tests.test_truths import BAD_TRUTHS

ONES, TWO = (1, 1, 1), ((1, 1, -1), (1, -1, 1))
FOUR = ((1, 1, 1, -1), (1, 1, -1, 1), (1, -1, 1, 1), (-1, 1, 1, 1))
SLACKS = BAD_FRACTIONS + ((0, 1), (-1, 2), (3, 2), (2, 1), (999999999, 999999998))
# Wrong tuples of indices below 2.
BAD_TAKEN = (None, 0, True, [0], (2,), (-1,), (0, True), (False,), (0, None), ((0,),), "01", {}, (HUGE,), DEEP,
             DEEP_LIST, (0,) * 4097)
SIZES = (((1, 1), (0, 1), (1, 2)), ((1, 2), (1, 5), (1, 3)), ((3, 4), (0, 1), (1, 4)), ((1, 3), (2, 7), (1, 1)),
         ((2, 3), (1, 2), (2, 3)), ((1, 4), (0, 1), (1, 1)), ((999, 1000), (1, 1), (1, 1)))


def heights_by_words(truth, family, taken, e):
    return [sign * sum(family[index][point] for index in taken) - len(taken) * Fraction(*e)
            for point, sign in enumerate(truth)]


def weights_by_words(truth, family, taken, d, e, c):
    step = Fraction(*c) * Fraction(*d) / 4
    return [min(Fraction(1), max(Fraction(0), 1 - step * z)) for z in heights_by_words(truth, family, taken, e)]


def falls_by_words(truth, family, taken, d, e, c):
    total, start = Fraction(0), 2 / (Fraction(*c) * Fraction(*d))
    weights = weights_by_words(truth, family, taken, d, e, c)
    for z, weight in zip(heights_by_words(truth, family, taken, e), weights):
        total += start - z if z <= 0 else start * weight * weight
    return total


def good_tests(truth, family, taken, d, e, c):
    weights = weights_by_words(truth, family, taken, d, e, c)
    least = (Fraction(*e) + Fraction(*c)) * sum(weights)
    return tuple(index for index, test in enumerate(family)
                 if sum(weight * sign * told for weight, sign, told in zip(weights, truth, test)) > least)


def next_by_words(truth, family, taken, d, e, c):
    weights = weights_by_words(truth, family, taken, d, e, c)
    size = Fraction(*d) * len(truth)
    if sum(weights) < size:
        return ("vote",)
    good = good_tests(truth, family, taken, d, e, c)
    if good:
        return ("tests", good)
    return ("core", [weight * size / sum(weights) for weight in weights])


def as_words(answer):
    """An answer with the measure, if there is one, as a list of fractions."""
    return answer if answer[0] != "core" else ("core", values(answer[1]))


def some_taken(source, family):
    yield ()
    yield (source.randrange(len(family)),)
    yield (source.randrange(len(family)),) * source.randint(2, 40)
    for _ in range(3):
        yield tuple(source.randrange(len(family)) for _ in range(source.randint(2, 12)))


def some_rounds(seed, count):
    source = random.Random(seed)
    for truth, family in some_cases(seed, count):
        for taken in some_taken(source, family):
            yield (truth, family, taken) + source.choice(SIZES)


class Rounds(Case):

    def test_most_rounds(self):
        for top, bottom in ((1, 1), (1, 2), (2, 3), (3, 4), (1, 7), (999999998, 999999999), (1, 999999999)):
            for d in ((1, 1), (1, 2), (2, 3), (5, 6), (1, 32), (1, 999999999)):
                number = Fraction(4) / (Fraction(top, bottom) ** 2 * Fraction(*d) ** 2)
                found = most_rounds(d, (top, bottom))
                self.assertTrue(found < number <= found + 1)
        self.assertEqual([most_rounds((1, 1), (1, 1)), most_rounds((1, 2), (1, 1)), most_rounds((2, 3), (1, 1))],
                         [3, 15, 8])
        self.assertEqual(most_rounds((1, 32), (1, 1)), 4095)
        self.refuses(most_rounds, [(1, 2), (1, 2)], [(InvalidFraction, SHARES), (InvalidFraction, SLACKS)])
        self.refuses(most_rounds, [(1, 1), (1, 1)], [(InvalidFraction, SHARES), (InvalidFraction, SLACKS)])

    def test_heights_weights_and_falls(self):
        for truth, family, taken, d, e, c in some_rounds(1, 60):
            told = heights(truth, family, taken, e)
            self.assertEqual(values(told), heights_by_words(truth, family, taken, e))
            self.assertTrue(is_least(told))
            told = weights_at(truth, family, taken, d, e, c)
            self.assertEqual(values(told), weights_by_words(truth, family, taken, d, e, c))
            self.assertTrue(is_least(told))
            self.assertEqual(falls(truth, family, taken, d, e, c),
                             pair(falls_by_words(truth, family, taken, d, e, c)))

    def test_nothing_taken(self):
        for truth, family in some_cases(2, 20):
            for d, e, c in SIZES:
                count = len(truth)
                self.assertEqual(heights(truth, family, (), e), (1, (0,) * count))
                self.assertEqual(weights_at(truth, family, (), d, e, c), (1, (1,) * count))
                self.assertEqual(falls(truth, family, (), d, e, c), pair(2 * count / (Fraction(*c) * Fraction(*d))))

    def test_weights_at_their_bounds(self):
        # For d and c of 1 the weight is 0 from the height 4 on, and 1 up to the height 0.
        for count in range(7):
            told = weights_at((1, -1), ((1, 1),), (0,) * count, (1, 1), (0, 1), (1, 1))
            self.assertEqual(values(told), [max(Fraction(0), 1 - Fraction(count, 4)), 1])
        # Heights of 0 behind taken tests.
        self.assertEqual(heights((1, 1), ((1, -1), (-1, 1)), (0, 1), (0, 1)), (1, (0, 0)))
        self.assertEqual(weights_at((1, 1), ((1, -1), (-1, 1)), (0, 1), (1, 1), (0, 1), (1, 1)), (1, (1, 1)))
        self.assertEqual(heights((1,), ((1,),), (0, 0), (1, 1)), (1, (0,)))
        self.assertEqual(falls((1,), ((1,),), (0, 0), (1, 1), (1, 1), (1, 1)), (2, 1))

    def test_most_taken(self):
        taken = (0, 1) * 2048
        self.assertEqual(heights(ONES, TWO, taken, (1, 3)), (3, (8192, -4096, -4096)))
        self.assertEqual(weights_at(ONES, TWO, taken, (1, 1), (1, 3), (1, 2)), (1, (0, 1, 1)))
        self.assertEqual(falls(ONES, TWO, taken, (1, 1), (1, 3), (1, 2)), pair(8 + Fraction(2 * 4096, 3)))
        self.assertEqual(next_of(ONES, TWO, taken, (1, 1), (1, 3), (1, 2)), ("vote",))

    def test_next(self):
        kinds = {}
        for truth, family, taken, d, e, c in some_rounds(3, 100):
            told = next_of(truth, family, taken, d, e, c)
            self.assertEqual(as_words(told), next_by_words(truth, family, taken, d, e, c))
            kinds[told[0]] = kinds.get(told[0], 0) + 1
            if told[0] == "core":
                self.assertTrue(is_least(told[1]))
                self.assertTrue(is_measure(told[1], len(truth), d))
        self.assertTrue(min(kinds[kind] for kind in ("vote", "tests", "core")) > 20, kinds)

    def test_weights_of_just_the_size(self):
        # Behind eight rounds the weights are 0 and 1, just d N for d of 1 / 2: no vote.
        family = ((1, -1),)
        self.assertEqual(weights_at((1, 1), family, (0,) * 8, (1, 2), (0, 1), (1, 1)), (1, (0, 1)))
        self.assertEqual(next_of((1, 1), family, (0,) * 8, (1, 2), (0, 1), (1, 1)), ("core", (1, (0, 1))))
        self.assertEqual(next_of((1, 1), family, (0,) * 9, (501, 1000), (0, 1), (1, 1)), ("vote",))
        # A sum of just e + c times the weights' is not good; one that is a little above it is.
        self.assertEqual(next_of((1,), ((1,),), (), (1, 1), (1, 2), (1, 2)), ("core", (1, (1,))))
        self.assertEqual(next_of((1,), ((1,),), (), (1, 1), (1, 2), (499, 1000)), ("tests", (0,)))
        self.assertEqual(next_of((1, 1), ((1, -1),), (), (1, 1), (0, 1), (1, 999999999)), ("core", (1, (1, 1))))

    def test_errors(self):
        truth, family, taken = (InvalidTruth, BAD_TRUTHS), (InvalidFamily, BAD_FAMILIES_ON_THREE), (InvalidOperation,
                                                                                                  BAD_TAKEN)
        d, e, c = (InvalidFraction, SHARES), (InvalidFraction, EDGES), (InvalidFraction, SLACKS)
        self.refuses(heights, [ONES, TWO, (0, 1, 1), (1, 2)], [truth, family, taken, e])
        self.refuses(heights, [ONES, TWO, (1,) * 4096, (1, 1)], [truth, family, taken, e])
        for call in (weights_at, falls, next_of):
            self.refuses(call, [ONES, TWO, (0, 1, 1), (1, 2), (1, 2), (1, 2)], [truth, family, taken, d, e, c])
            self.refuses(call, [ONES, TWO, (), (1, 1), (0, 1), (1, 1)], [truth, family, taken, d, e, c])
            # No work limit stands here.
            call(ONES, TWO, (), (1, 999999999), (1, 1), (1, 999999999))


def followed(truth, family, d, e, c, choose):
    """The run that takes, of the good tests, always the one that is chosen."""
    taken = ()
    while True:
        told = next_by_words(truth, family, taken, d, e, c)
        if told[0] != "tests":
            return taken, told
        taken += (choose(told[1]),)


def row_of_fractions(numbers, factor=1):
    bottom = factor
    for number in numbers:
        bottom *= number.denominator
    return (bottom, tuple(int(number * bottom) for number in numbers))


class Runs(Case):

    def sizes(self):
        for truth, family in some_cases(10, 40):
            for d, e, c in SIZES:
                yield truth, family, d, e, c

    def test_runs(self):
        ends = {}
        for truth, family, d, e, c in self.sizes():
            taken, end = answer = run(truth, family, d, e, c)
            self.assertIs(is_run(truth, family, d, e, c, answer), True)
            self.assertLessEqual(len(taken), most_rounds(d, c))
            step = Fraction(*c) * Fraction(*d) * len(truth) / 2
            for k, index in enumerate(taken):
                told = next_by_words(truth, family, taken[:k], d, e, c)
                self.assertEqual(told[0], "tests")
                self.assertIn(index, told[1])
                fallen = (falls_by_words(truth, family, taken[:k], d, e, c)
                          - falls_by_words(truth, family, taken[:k + 1], d, e, c))
                self.assertGreater(fallen, step)
            self.assertEqual(as_words(end), next_by_words(truth, family, taken, d, e, c))
            ends[end[0]] = ends.get(end[0], 0) + 1
            self.check_end(truth, family, d, e, c, taken, end)
        self.assertTrue(min(ends["vote"], ends["core"]) > 20, ends)

    def check_end(self, truth, family, d, e, c, taken, end):
        size, edge = Fraction(*d) * len(truth), Fraction(*e) + Fraction(*c)
        if end == ("vote",):
            above = heights_by_words(truth, family, taken, e)
            self.assertLess(len([z for z in above if z <= 0]), size)
        else:
            self.assertTrue(is_measure(end[1], len(truth), d))
            self.assertLessEqual(max(sums(truth, family, end[1])), edge * size)
            if edge <= 1:
                self.assertIs(is_core_answer(truth, family, d, pair(edge), end), True)
        if edge <= 1 and core_answer(truth, family, d, pair(edge))[0] == "mix":
            self.assertEqual(end, ("vote",))

    def test_each_way_ends(self):
        source = random.Random(11)
        for truth, family, d, e, c in self.sizes():
            for choose in (min, max, source.choice):
                taken, end = followed(truth, family, d, e, c, choose)
                self.assertLess(len(taken), 4 / (Fraction(*c) * Fraction(*d)) ** 2)
                told = end if end == ("vote",) else ("core", row_of_fractions(end[1], LONG))
                self.assertIs(is_run(truth, family, d, e, c, (taken, told)), True)
                if taken:
                    for near in (taken[:-1], taken[1:] + taken[:1] + (0,), taken + taken[-1:]):
                        # What follows is judged by the words: the end must be what comes behind all.
                        self.assertIs(is_run(truth, family, d, e, c, (near, told)),
                                      self.is_right(truth, family, d, e, c, near, told))

    def is_right(self, truth, family, d, e, c, taken, end):
        for k, index in enumerate(taken):
            told = next_by_words(truth, family, taken[:k], d, e, c)
            if told[0] != "tests" or index not in told[1]:
                return False
        return as_words(end) == next_by_words(truth, family, taken, d, e, c)

    def test_long_runs(self):
        # Each test is a little behind what is asked: many rounds, and a vote in the end.
        truth, family = (1,) * 5, tuple(tuple(-1 if point == k else 1 for point in range(5)) for k in range(5))
        for d, e, c in (((1, 5), (0, 1), (1, 6)), ((1, 4), (1, 3), (1, 8)), ((1, 1), (0, 1), (1, 32))):
            taken, end = answer = run(truth, family, d, e, c)
            self.assertTrue(0 < len(taken) <= most_rounds(d, c))
            self.assertIs(is_run(truth, family, d, e, c, answer), True)
            self.assertEqual(as_words(end), next_by_words(truth, family, taken, d, e, c))
            self.assertTrue(self.is_right(truth, family, d, e, c, taken, end))
        self.assertGreater(len(run(truth, family, (1, 5), (0, 1), (1, 6))[0]), 50)

    def test_wide_runs(self):
        source = random.Random(12)
        truth = tuple(source.choice((1, -1)) for _ in range(32))
        family = tuple(tuple(sign if source.random() < 0.55 else -sign for sign in truth) for _ in range(256))
        d, e, c = (1, 4), (0, 1), (1, 8)
        answer = run(truth, family, d, e, c)
        self.assertIs(is_run(truth, family, d, e, c, answer), True)
        self.assertEqual(as_words(answer[1]), next_by_words(truth, family, answer[0], d, e, c))

    def test_near_values(self):
        core = ("core", (4, (3, 3, 3, 3)))
        right = (((), core), ((), ("core", (4 * LONG, (3 * LONG,) * 4))), ((), ("core", (8, (6, 6, 6, 6)))))
        wrong = (((), ("vote",)), ((0,), core), ((), ("core", (4, (3, 3, 3, 2)))), ((), ("core", (4, (3, 3, 3)))),
                 ((), ("core", (4 * LONG, (3 * LONG, 3 * LONG, 3 * LONG + 1, 3 * LONG - 1)))),
                 ((), ("core", (4, (3, 3, 3, 3, 0)))), ((), ("core", (1, (1, 1, 1, 1)))), ((), ("core", (0, (3,) * 4))),
                 ((), ("tests", (0,))), ((), ("core",)), ((), core, ()), ((), core + (0,)), ([], core), ((), list(core)),
                 ((True,), core), ((None,), core), (DEEP, core), ((), DEEP))
        self.judged(is_run, ((1, 1, 1, 1), FOUR, (3, 4), (0, 1), (1, 2)), right, wrong)
        right = (((0,), ("vote",)),)
        wrong = (((), ("vote",)), ((0, 0), ("vote",)), ((1,), ("vote",)), ((0,), ("core", (1, (1,)))), ((0,), ("vote", 0)),
                 ((False,), ("vote",)), ((HUGE,), ("vote",)), ((-1,), ("vote",)), ((0.0,), ("vote",)), ((0,), "vote"),
                 ((0,) * 4097, ("vote",)), ((0,), ("vote", ())), ((0,), ()))
        self.judged(is_run, ((1,), ((1,),), (1, 1), (0, 1), (1, 2)), right, wrong)
        self.judged(is_run, ((1,), ((1,),), (1, 1), (0, 1), (1, 1)), (((), ("core", (1, (1,)))),), right)
        # Where a test is still good, the run has no end, whatever the measure; where the vote is there, no other one.
        self.judged(is_run, ((1,), ((1,),), (1, 1), (0, 1), (1, 2)), (), (((), ("core", (1, (1,)))), ((0,), ("core", (1, (1,))))))
        self.judged(is_run, ((1, 1, 1, 1), FOUR, (3, 4), (0, 1), (1, 4)), (), (((), ("core", (4, (3, 3, 3, 3)))), ((), ("vote",))))
        # The second test is good at no time.
        truth, family = (1, 1), ((1, 1), (-1, -1))
        end = run(truth, family, (1, 2), (0, 1), (1, 1))
        self.assertEqual(set(end[0]), set())
        taken, end = run(truth, family, (1, 2), (0, 1), (1, 2))
        self.assertEqual(set(taken), {0})
        self.judged(is_run, (truth, family, (1, 2), (0, 1), (1, 2)), ((taken, end),),
                    ((taken[:-1] + (1,), end), (taken[:-1], end), (taken + (0,), end), (taken + (1,), end)))

    def test_limits(self):
        # 4 / (c c d d) is between 4096 and 4097 for the first share, and just above 4097 for the second one.
        let, much = (62493, 2000000), (62486, 2000000)
        let, much = pair(Fraction(*let)), pair(Fraction(*much))
        self.assertEqual((most_rounds(let, (1, 1)), most_rounds(much, (1, 1))), (4096, 4097))
        self.assertEqual(run(ONES, TWO, let, (0, 1), (1, 1))[1][0], "core")
        self.assertIs(is_run(ONES, TWO, let, (0, 1), (1, 1), None), False)
        bad = [(InvalidTruth, BAD_TRUTHS), (InvalidFamily, BAD_FAMILIES_ON_THREE), (InvalidFraction, SHARES),
               (InvalidFraction, EDGES), (InvalidFraction, SLACKS)]
        sizes = ((much, (0, 1), (1, 1)), ((1, 8), (1, 2), (1, 8)), ((1, 999999999), (1, 1), (1, 999999999)),
                 ((1, 1), (0, 1), (1, 999999999)))
        self.refuses(run, [ONES, TWO, (1, 2), (1, 2), (1, 2)], bad,
                     [((ONES, TWO) + size, TooMany, 4096) for size in sizes])
        self.refuses(is_run, [ONES, TWO, (1, 2), (1, 2), (1, 2), None], bad + [None],
                     [((ONES, TWO) + size + (value,), TooMany, 4096) for size in sizes for value in (DEEP, ((), ("vote",)))])
        self.refuses(run, [ONES, TWO, (1, 1), (0, 1), (1, 1)], bad)
        self.refuses(run, [ONES, TWO, (1, 1), (1, 1), (1, 32)], bad)

    def test_deep_values(self):
        for value in JUNK + (((), DEEP), (DEEP, ("vote",)), ((), ("core", DEEP)), ((), ("core", (1, DEEP)))):
            self.assertIs(is_run(ONES, TWO, (1, 2), (1, 2), (1, 2), value), False)


class NotTrue(Case):
    """[6.5]."""

    def test_the_measure_is_no_core_for_e(self):
        end = run((1,), ((1,),), (1, 1), (0, 1), (1, 1))[1]
        self.assertEqual(end[0], "core")
        self.assertIs(is_core_answer((1,), ((1,),), (1, 1), (0, 1), end), False)

    def test_heights_become_less(self):
        before = heights((1, 1), ((1, -1),), (0,), (0, 1))
        self.assertEqual(before, (1, (1, -1)))
        self.assertEqual(heights((1, 1), ((1, -1),), (0, 0), (0, 1)), (1, (2, -2)))

    def test_tests_are_taken_again(self):
        taken = run((1,), ((1,),), (1, 1), (0, 1), (1, 4))[0]
        self.assertEqual(taken, (0,))
        taken = run((1, 1), ((1, 1),), (1, 2), (0, 1), (1, 2))[0]
        self.assertGreater(len(taken), 1)


if __name__ == "__main__":
    unittest.main()
