"""[20.1] to [20.5]: trees of bits. What is told is worked out here by the words of the document."""

import random
import unittest
from fractions import Fraction
from itertools import product

from hardbits.errors import InvalidMaps, InvalidNumber, InvalidOperation, InvalidWord, TooMany
from hardbits.longer.trees import (asker_edge, broken_by, even_chance, is_asker, is_broken_by, made_test, pair_edge,
                                   questions, real_chance, step_mean, tree_word)
from tests.support import BAD_NUMBERS, Case, DEEP, HUGE, JUNK, LONG
from tests.test_fractions import pair

TURN, ASK = ((0, 1), (1, 0)), (0, ((1, (0, 1)), (1, (1, 0))))
BAD_N = BAD_NUMBERS + (0, 4)
BAD_T = BAD_NUMBERS + (0, 5)
# Wrong doublings of words of one bit.
BAD_DOUBLINGS = (None, 1, True, (), (0, 1), ((0, 1),), ((0, 1),) * 3, ((0, 1),) * 4, [(0, 1), (1, 0)], ([0, 1], (1, 0)), ((0, 1), (1,)), ((0, 1), (1, 0, 1)),
                 ((0, 1), (2, 1)), ((-1, 1), (0, 1)), ((True, 1), (0, 1)), ((0, 1), (None, 1)), ((HUGE, 1), (0, 1)), ((0, 1), (1, 2)), ((0, 1), (1, -1)), ((0, 1), (1, True)), ((0, 1), (1, None)), ((0, 1), None), ((0, HUGE), (1, 0)), "01", {}, DEEP)


def question(depth, x=0, end=0):
    """An asker for one bit with so many questions along each way."""
    return end if depth == 0 else (x, (question(depth - 1, x, end),) * 2)


# Wrong askers for one bit and two levels.
BAD_ASKERS = (None, True, False, 2, -1, "0", (), (0,), (0, 1), (0, (0,)), (0, (0, 1, 1)), (0, [0, 1]), [0, (0, 1)], (4, (0, 1)), (-1, (0, 1)), (True, (0, 1)),
              (0, (0, 2)), (0, (0, True)), (0, (0, None)), (0, (0, 1), 0), (0, (0, (0, (0,)))), (0, (0, (4, (0, 1)))), question(4), (0, (0, question(3))),
              question(5, 1, 1), (HUGE, (0, 1)), (0, (0, HUGE)), {}, DEEP, ((0, (0, 1)),))


def leaf(doubling, t, seed, x):
    for i in range(t):
        seed = doubling[seed][x // 2 ** i % 2]
    return seed


def end_for(asker, answer):
    """The end to which the answers lead; answer tells one for each x."""
    while not isinstance(asker, int):
        asker = asker[1][answer(asker[0])]
    return asker


def most_questions(asker):
    return 0 if isinstance(asker, int) else 1 + max(map(most_questions, asker[1]))


def asked(asker):
    """All x of which the asker asks somewhere."""
    if isinstance(asker, int):
        return set()
    return {asker[0]}.union(*map(asked, asker[1]))


def real_by_words(n, doubling, t, asker):
    return Fraction(sum(end_for(asker, lambda x: leaf(doubling, t, seed, x)) for seed in range(2 ** n)), 2 ** n)


def even_by_words(n, asker):
    """Over all words for all x that are asked for somewhere, each with its own word."""
    places = sorted(asked(asker))
    ends = [end_for(asker, dict(zip(places, words)).get) for words in product(range(2 ** n), repeat=len(places))]
    return Fraction(sum(ends), len(ends))


def made_by_words(n, doubling, t, asker, i, j, others):
    """The made test, by going through the tree: nodes are told by their first i bits."""
    found = []
    for number in range(4 ** n):
        tested = (number % 2 ** n, number // 2 ** n)
        come_to = []

        def answer(x):
            node = tuple(x // 2 ** level % 2 for level in range(i))
            if node not in come_to:
                come_to.append(node)
            at = come_to.index(node)
            below = others[at] if at < j else tested if at == j else doubling[others[at]]
            word = below[x // 2 ** i % 2]
            for level in range(i + 1, t):
                word = doubling[word][x // 2 ** level % 2]
            return word

        found.append(end_for(asker, answer))
    return tuple(found)


def pair_edge_by_words(n, doubling, test):
    met = sum(test[u + 2 ** n * v] for u, v in doubling)
    return Fraction(met, 2 ** n) - Fraction(sum(test), 4 ** n)


def all_others(n, q, j):
    words, pairs = range(2 ** n), list(product(range(2 ** n), repeat=2))
    return product(*[pairs if at < j else (None,) if at == j else words for at in range(q)])


def mean_by_words(n, doubling, t, asker, i, j):
    edges = [pair_edge_by_words(n, doubling, made_by_words(n, doubling, t, asker, i, j, others))
             for others in all_others(n, most_questions(asker), j)]
    return sum(edges) / len(edges)


def drawn_asker(source, n, t, depth):
    if depth == 0 or source.random() < 0.15:
        return source.randint(0, 1)
    x = source.randrange(2 ** t)
    return (x, tuple(drawn_asker(source, n, t, depth - 1) for _ in range(2 ** n)))


def some_doublings(source, n, count=2):
    """Doublings that turn, equal pairs, one that leads everything to one word, and drawn ones."""
    yield tuple((word, word) for word in range(2 ** n))
    yield ((0, 0),) * 2 ** n
    yield tuple((word, 2 ** n - 1 - word) for word in range(2 ** n))
    for _ in range(count):
        yield tuple((source.randrange(2 ** n), source.randrange(2 ** n)) for _ in range(2 ** n))


def some_cases(seed, sizes=((1, 1, 2), (1, 2, 3), (1, 4, 3), (2, 1, 2), (2, 2, 2), (2, 3, 1), (3, 2, 1)), count=2):
    source = random.Random(seed)
    for n, t, depth in sizes:
        askers = [drawn_asker(source, n, t, depth) for _ in range(3)] + [0, 1]
        askers.append((0, ((2 ** t - 1, (0,) + (1,) * (2 ** n - 1)),) + (1,) * (2 ** n - 1)))
        # A question asked again, whose other answers no way leads along.
        askers.append((1, ((1, (0,) + (1,) * (2 ** n - 1)),) + (1,) * (2 ** n - 1)))
        for doubling in some_doublings(source, n, count):
            for asker in askers:
                if most_questions(asker) <= 2 or n < 3:
                    yield n, doubling, t, asker


class Leaves(Case):

    def test_tree_words(self):
        source = random.Random(1)
        for n in (1, 2, 3):
            for t in (1, 2, 3, 4):
                for doubling in some_doublings(source, n):
                    for seed in range(2 ** n):
                        for x in range(2 ** t):
                            self.assertEqual(tree_word(n, doubling, t, seed, x), leaf(doubling, t, seed, x))

    def test_first_bit_first(self):
        # By x of 1 first to the second word of the pair, then to the first one; by 2 the other way round.
        doubling = ((1, 2), (3, 0), (0, 1), (2, 2))
        self.assertEqual((tree_word(2, doubling, 2, 0, 1), tree_word(2, doubling, 2, 0, 2)), (0, 0))
        self.assertEqual((tree_word(2, doubling, 2, 0, 0), tree_word(2, doubling, 2, 0, 3)), (3, 1))
        self.assertEqual((tree_word(2, doubling, 2, 1, 1), tree_word(2, doubling, 2, 1, 2)), (1, 2))

    def test_errors(self):
        bad = [(InvalidNumber, BAD_N), (InvalidMaps, BAD_DOUBLINGS), (InvalidNumber, BAD_T)]
        self.refuses(tree_word, [1, TURN, 2, 1, 3], bad + [(InvalidNumber, BAD_NUMBERS + (2,)), (InvalidNumber, BAD_NUMBERS + (4,))])
        self.refuses(tree_word, [1, TURN, 1, 0, 0], bad + [(InvalidNumber, BAD_NUMBERS + (2,)), (InvalidNumber, BAD_NUMBERS + (2,))])
        self.fails(InvalidMaps, tree_word, 2, TURN, 1, 0, 0)
        self.fails(InvalidMaps, tree_word, 3, TURN * 8, 1, 0, 0)


class Askers(Case):

    def test_is_asker(self):
        for n, _, t, asker in some_cases(10):
            self.assertIs(is_asker(n, t, asker), True)
            self.assertEqual(questions(n, t, asker), most_questions(asker))
        for depth in range(0, 7):
            self.assertIs(is_asker(1, 1, question(depth)), depth <= 3)
            self.assertIs(is_asker(1, 4, question(depth, 15, 1)), depth <= 3)
        wrong = tuple(value for value in BAD_ASKERS if value not in (True, False))
        right = ((0, (0, 1)), (3, (1, (0, (0, 0)))), question(3), question(3, 3, 1), (2, (question(2), 1)))
        for value in right:
            self.assertIs(is_asker(1, 2, value), True)
        for value in wrong + (True, False, (LONG, (0, 1)), (0, (0, LONG)), LONG):
            self.assertIs(is_asker(1, 2, value), False)
        for value in JUNK:
            if not (isinstance(value, int) and value in (0, 1)) or isinstance(value, bool):
                self.assertIs(is_asker(1, 2, value), False)
        self.assertEqual([is_asker(1, 1, value) for value in (0, 1, True, False, 2, -1)], [True, True, False, False, False, False])

    def test_sizes(self):
        # An asker needs an answer for each word, and an x below 2 ** t.
        four = (3, (0, 1, 1, 0))
        self.assertEqual([is_asker(n, 2, four) for n in (1, 2, 3)], [False, True, False])
        self.assertEqual([is_asker(2, t, four) for t in (1, 2, 3, 4)], [False, True, True, True])
        self.assertEqual(questions(3, 4, (15, (0, (15, (0,) * 8)) + (1,) * 6)), 2)

    def test_near_values(self):
        # The ends of a right asker, near to it or not, are right too: only misshapen ones are refused here.
        for near in ((0, (0, 1), None), [0, (0, 1)], (0, [0, 1]), (False, (0, 1)), (0, (False, 1)), (0, (0, True)), ((0,), (0, 1)), (0, (0, 1, None)),
                     (0, ((0, 1),)), (0, (None, 1)), ("0", (0, 1)), (0, (0, 1), DEEP), (0, (0, DEEP)), (0, DEEP)):
            self.refused(is_asker, (1, 2), near)

    def test_chances(self):
        for n, doubling, t, asker in some_cases(11):
            real, even = real_by_words(n, doubling, t, asker), even_by_words(n, asker)
            self.assertEqual(real_chance(n, doubling, t, asker), pair(real))
            self.assertEqual(even_chance(n, t, asker), pair(even))
            self.assertEqual(asker_edge(n, doubling, t, asker), pair(real - even))

    def test_ends_alone(self):
        for n in (1, 2, 3):
            for t in (1, 4):
                for end in (0, 1):
                    self.assertEqual(questions(n, t, end), 0)
                    self.assertEqual(even_chance(n, t, end), (end, 1))
                    self.assertEqual(real_chance(n, ((0, 0),) * 2 ** n, t, end), (end, 1))
                    self.assertEqual(asker_edge(n, ((0, 0),) * 2 ** n, t, end), (0, 1))

    def test_questions_asked_again(self):
        # The second answer is the first one: of the ways below it one alone is led along.
        again = (0, ((0, (1, 0)), (0, (0, 1))))
        self.assertEqual((questions(1, 1, again), even_chance(1, 1, again)), (2, (1, 1)))
        self.assertEqual(real_chance(1, TURN, 1, again), (1, 1))
        unlike_ones = (0, ((1, (1, 0)), (1, (0, 1))))
        self.assertEqual(even_chance(1, 1, unlike_ones), (1, 2))
        thrice = (0, ((1, ((0, (1, 0)), 0)), 0))
        self.assertEqual((questions(1, 1, thrice), even_chance(1, 1, thrice)), (3, (1, 4)))

    def test_ways_that_no_answers_lead_along_count(self):
        again = (0, ((0, (1, (1, (0, 1)))), 0))
        self.assertEqual(questions(1, 1, again), 3)
        self.assertEqual(even_chance(1, 1, again), (1, 2))

    def test_greatest_sizes(self):
        source = random.Random(12)
        asker = drawn_asker(random.Random(5), 3, 4, 3)
        self.assertEqual(most_questions(asker), 3)
        doubling = tuple((source.randrange(8), source.randrange(8)) for _ in range(8))
        self.assertEqual(real_chance(3, doubling, 4, asker), pair(real_by_words(3, doubling, 4, asker)))
        # Three unlike questions: each way has its own words.
        straight = (0, tuple((1, tuple((2, tuple((u * v * w) % 2 for u in range(8))) for v in range(8))) for w in range(8)))
        self.assertEqual(even_chance(3, 4, straight), (1, 8))

    def test_errors(self):
        sizes = [(InvalidNumber, BAD_N), (InvalidNumber, BAD_T)]
        askers = (InvalidOperation, BAD_ASKERS)
        self.refuses(is_asker, [1, 2, None], sizes + [None])
        for call in (questions, even_chance):
            self.refuses(call, [1, 2, ASK], sizes + [askers])
            self.refuses(call, [1, 2, 1], sizes + [askers])
        bad = [sizes[0], (InvalidMaps, BAD_DOUBLINGS), sizes[1], askers]
        for call in (real_chance, asker_edge):
            self.refuses(call, [1, TURN, 2, ASK], bad)
            self.refuses(call, [1, TURN, 2, 0], bad)


class Made(Case):

    def test_made_tests(self):
        source = random.Random(20)
        for n, doubling, t, asker in some_cases(21):
            q = most_questions(asker)
            for i in range(t):
                for j in range(q):
                    found = list(all_others(n, q, j))
                    for others in source.sample(found, min(6, len(found))):
                        told = made_test(n, doubling, t, asker, i, j, others)
                        self.assertEqual(told, made_by_words(n, doubling, t, asker, i, j, others))
                        self.assertEqual(pair_edge(n, doubling, told), pair(pair_edge_by_words(n, doubling, told)))

    def test_pairs_by_their_numbers(self):
        # The test of the leaf at x of 0 reads the first word of the pair, that at x of 1 the second one.
        self.assertEqual(made_test(1, TURN, 1, (0, (0, 1)), 0, 0, (None,)), (0, 1, 0, 1))
        self.assertEqual(made_test(1, TURN, 1, (1, (0, 1)), 0, 0, (None,)), (0, 0, 1, 1))
        self.assertEqual(made_test(2, ((0, 0),) * 4, 1, (1, (0, 0, 1, 0)), 0, 0, (None,)), (0,) * 8 + (1,) * 4 + (0,) * 4)
        self.assertEqual(pair_edge(2, ((1, 2),) * 4, (0,) * 9 + (1,) + (0,) * 6), (15, 16))
        self.assertEqual(pair_edge(2, ((2, 1),) * 4, (0,) * 9 + (1,) + (0,) * 6), (-1, 16))

    def test_nodes_that_are_come_to_again(self):
        # Level 1 has two nodes; x of 1 and of 3 stand below the same one, whose number is not given anew.
        asker = (1, ((3, ((0, (0, 1)), (0, (1, 0)))), (3, ((0, (1, 0)), (0, (0, 1))))))
        source = random.Random(22)
        for j in range(3):
            for others in source.sample(list(all_others(1, 3, j)), 3):
                self.assertEqual(made_test(1, TURN, 2, asker, 1, j, others), made_by_words(1, TURN, 2, asker, 1, j, others))
        # The node of x of 0 is number 1, so that with j of 2 the tested pair is never come to.
        for others in all_others(1, 3, 2):
            self.assertEqual(len(set(made_test(1, TURN, 2, asker, 1, 2, others))), 1)

    def test_numbers_as_they_are_come_to(self):
        # On one way the node of x of 1 comes first, on the other one that of x of 0.
        asker = (0, ((2, (0, 1)), (3, (1, 0))))
        for doubling in some_doublings(random.Random(23), 1):
            for i in (0, 1):
                for j in (0, 1):
                    for others in all_others(1, 2, j):
                        told = made_test(1, doubling, 2, asker, i, j, others)
                        self.assertEqual(told, made_by_words(1, doubling, 2, asker, i, j, others))

    def test_errors(self):
        bad = [(InvalidNumber, BAD_N), (InvalidMaps, BAD_DOUBLINGS), (InvalidNumber, BAD_T), (InvalidOperation, BAD_ASKERS)]
        # With t of 1 an asker that asks for x of 2 or 3 is none, either.
        deeper = (0, ((1, ((2, (0, 1)), 1)), (3, (1, 0))))
        levels, numbers = (InvalidNumber, BAD_NUMBERS + (2,)), (InvalidNumber, BAD_NUMBERS + (3,))
        others = (None, 1, True, (), (None,), (None, 1), (None, 1, 1, 1), [(0, 1), None, 1], ((0, 1), 1, None), ((0, 1), (0, 1), None), (None, (0, 1), 1), ((0, 1), None, (0, 1)),
                  (1, None, 1), ((2, 1), None, 1), ((True, 1), None, 1), ((-1, 1), None, 1), ([0, 1], None, 1), ((0,), None, 1), ((0, 1, 1), None, 1), ((0, 2), None, 1), ((0, -1), None, 1), ((0, True), None, 1), ((0, 1), None, 2),
                  ((0, 1), None, -1), ((0, 1), None, True), ((0, 1), None, None), ((0, 1), 0, 1), ((0, 1), False, 1), ((0, HUGE), None, 1), ((0, 1), None, HUGE), "0", {}, DEEP)
        self.refuses(made_test, [1, TURN, 2, deeper, 1, 1, ((0, 1), None, 1)], bad + [levels, numbers, (InvalidOperation, others)])
        others = tuple(value for value in others if value != ((0, 1), (0, 1), None)) + (((0, 1), None, 1),)
        self.refuses(made_test, [1, TURN, 2, deeper, 0, 2, ((0, 1), (1, 1), None)], bad + [levels, numbers, (InvalidOperation, others)])
        self.refuses(step_mean, [1, TURN, 2, deeper, 1, 2], bad + [levels, numbers])
        # An end has no question, so no j is right.
        self.fails_for(InvalidNumber, 0, made_test, 1, TURN, 1, 1, 0, 0, ())
        self.fails_for(InvalidNumber, 0, step_mean, 1, TURN, 1, 0, 0, 0)
        tests = (None, 1, True, (), (0, 1), (0, 1, 1), (0, 1, 1, 0, 1), [0, 1, 1, 0], (0, 1, 1, 2), (0, 1, 1, True), (0, 1, 1, None), "0110", {}, (0, 1, 1, HUGE), DEEP)
        self.refuses(pair_edge, [1, TURN, (0, 1, 1, 0)], [bad[0], bad[1], (InvalidWord, tests)])


def work(n, t, asker):
    q = most_questions(asker)
    return t * sum(4 ** (n * j) * 2 ** (n * (q - 1 - j)) for j in range(q)) * 4 ** n


class Steps(Case):

    def test_level_by_level(self):
        found = 0
        for n, doubling, t, asker in some_cases(30, ((1, 1, 2), (1, 2, 3), (1, 3, 2), (2, 1, 2), (2, 2, 2), (2, 3, 1), (3, 2, 1))):
            q, total = most_questions(asker), Fraction(0)
            if q == 0:
                continue
            for i in range(t):
                for j in range(q):
                    told = step_mean(n, doubling, t, asker, i, j)
                    self.assertEqual(told, pair(mean_by_words(n, doubling, t, asker, i, j)))
                    total += Fraction(*told)
            edge = Fraction(*asker_edge(n, doubling, t, asker))
            self.assertEqual(total, edge)
            found += edge != 0
            i, j, others = value = broken_by(n, doubling, t, asker)
            made = made_by_words(n, doubling, t, asker, i, j, others)
            self.assertGreaterEqual(abs(pair_edge_by_words(n, doubling, made)), abs(edge) / (q * t))
            self.assertIs(is_broken_by(n, doubling, t, asker, value), True)
        self.assertGreater(found, 40)

    def test_more_levels_and_questions(self):
        source = random.Random(31)
        for n, t, depth in ((1, 4, 3), (2, 4, 3), (3, 4, 2), (3, 1, 2)):
            for _ in range(2):
                asker = (0, tuple(drawn_asker(source, n, t, depth - 1) for _ in range(2 ** n)))
                doubling = tuple((source.randrange(2 ** n), source.randrange(2 ** n)) for _ in range(2 ** n))
                q = most_questions(asker)
                total = sum(Fraction(*step_mean(n, doubling, t, asker, i, j)) for i in range(t) for j in range(q))
                self.assertEqual(total, Fraction(*asker_edge(n, doubling, t, asker)))
                self.assertEqual(pair(total), pair(real_by_words(n, doubling, t, asker) - Fraction(*even_chance(n, t, asker))))
                i, j, others = broken_by(n, doubling, t, asker)
                told = pair_edge_by_words(n, doubling, made_by_words(n, doubling, t, asker, i, j, others))
                self.assertGreaterEqual(abs(told) * q * t, abs(total))

    def test_limits(self):
        three = (0, ((1, ((2, (0,) * 7 + (1,)),) * 8),) * 8)
        two = (0, ((1, (0,) * 7 + (1,)),) * 8)
        doubling = tuple((word, word) for word in range(8))
        # No numbers lead to just 60000; three questions of three bits are the only ones above it.
        for n in (1, 2, 3):
            for t in (1, 2, 3, 4):
                for q in (1, 2, 3):
                    straight = 1
                    for x in range(q):
                        straight = (x % 2, (straight,) + (0,) * (2 ** n - 1))
                    self.assertEqual(work(n, t, straight) > 60000, (n, q) == (3, 3))
        for t in (2, 4):
            self.assertGreater(work(3, t, three), 60000)
            self.fails_for(TooMany, 60000, step_mean, 3, doubling, t, three, 0, 0)
            self.fails_for(TooMany, 60000, broken_by, 3, doubling, t, three)
            self.fails_for(TooMany, 60000, is_broken_by, 3, doubling, t, three, None)
            # A made test, and the edges, have no such limit.
            self.assertEqual(made_test(3, doubling, t, three, 0, 0, (None, 7, 7)), made_by_words(3, doubling, t, three, 0, 0, (None, 7, 7)))
            self.assertEqual(real_chance(3, doubling, t, three), pair(real_by_words(3, doubling, t, three)))
        self.assertLess(work(3, 4, two), 60000)
        self.assertEqual(broken_by(3, doubling, 4, two)[0] in range(4), True)
        self.fails_for(InvalidNumber, 3, step_mean, 3, doubling, 2, three, 0, 3)

    def test_the_judge_takes_all_right_triples_and_no_others(self):
        counts = {True: 0, False: 0}
        for n, doubling, t, asker in some_cases(32, ((1, 1, 2), (1, 2, 2), (1, 3, 2), (1, 2, 3), (2, 1, 1), (2, 3, 1), (2, 1, 2)), 1):
            q = most_questions(asker)
            if q == 0:
                continue
            least = abs(Fraction(*asker_edge(n, doubling, t, asker))) / (q * t)
            for i in range(t):
                for j in range(q):
                    for others in all_others(n, q, j):
                        edge = abs(pair_edge_by_words(n, doubling, made_by_words(n, doubling, t, asker, i, j, others)))
                        counts[edge >= least] += 1
                        self.assertIs(is_broken_by(n, doubling, t, asker, (i, j, others)), edge >= least)
        self.assertGreater(min(counts.values()), 20)

    def test_near_values(self):
        # The edge of the asker is 1 / 2, so that 1 / 4 is enough; with j of 1 the test is met by all pairs, or by none.
        right = ((0, 0, (None, 0)), (0, 0, (None, 1)))
        wrong = ((0, 1, ((0, 0), None)), (0, 1, ((1, 0), None)), (1, 0, (None, 0)), (-1, 0, (None, 0)), (0, 2, (None, 0)), (0, -1, (None, 0)), (0, 0, (None, 2)),
                 (0, 0, (None,)), (0, 0, (None, 0, 0)), (0, 0, (0, None)), (0, 0, (0, 0)), (0, 0, (None, (0, 1))), (0, 0, (None, -1)), (0, 0, (None, HUGE)), (HUGE, 0, (None, 0)),
                 (0, LONG, (None, 0)), (0, 0), (0, 0, None), (0, 0, DEEP), (DEEP, 0, (None, 0)), (0, 1, (None, 0)))
        # With True for the word 1, None for itself, and the like, nothing near is taken.
        for value in right:
            self.assertIs(is_broken_by(1, TURN, 1, ASK, value), True)
        for near in wrong + JUNK + ((False, 0, (None, 0)), (0, False, (None, 0)), (0, 0, (None, True)), (0, 0, (False, 0)), [0, 0, (None, 0)], (0, 0, [None, 0]), (0, 0, (None, 0), 0)):
            self.refused(is_broken_by, (1, TURN, 1, ASK), near)

    def test_just_the_asker_divided(self):
        # One question, one level: the made test has just the asker's edge.
        for end in ((0, 1), (1, 0)):
            asker, doubling = (0, end), ((1, 0), (1, 1))
            edge = asker_edge(1, doubling, 1, asker)
            self.assertNotEqual(edge, (0, 1))
            self.assertEqual(pair_edge(1, doubling, made_test(1, doubling, 1, asker, 0, 0, (None,))), edge)
            self.assertIs(is_broken_by(1, doubling, 1, asker, (0, 0, (None,))), True)
            self.assertEqual(broken_by(1, doubling, 1, asker), (0, 0, (None,)))

    def test_divided_by_questions_and_levels(self):
        # Two questions, two levels: an edge of 3 / 4 divided by 4 is 3 / 16; one of 1 / 4 is 1 / 16, just the made test's.
        wide = ((2, 0), (2, 3), (3, 2), (3, 0)), (2, ((1, (0, 1, 1, 1)), (2, (0, 0, 1, 0)), (0, (0, 0, 0, 1)), (2, (0, 1, 1, 0))))
        just = ((2, 0), (3, 1), (1, 2), (3, 1)), (3, ((1, (0, 1, 0, 1)), (1, (0, 1, 0, 1)), (2, (1, 1, 0, 0)), (2, (0, 1, 1, 0))))
        for (doubling, asker), least, edge in ((wide, Fraction(3, 16), Fraction(1, 4)), (just, Fraction(1, 16), Fraction(1, 16))):
            self.assertEqual(abs(Fraction(*asker_edge(2, doubling, 2, asker))), 4 * least)
            made = made_test(2, doubling, 2, asker, 0, 0, (None, 1))
            self.assertEqual(abs(Fraction(*pair_edge(2, doubling, made))), edge)
            self.assertIs(is_broken_by(2, doubling, 2, asker, (0, 0, (None, 1))), True)

    def test_errors(self):
        bad = [(InvalidNumber, BAD_N), (InvalidMaps, BAD_DOUBLINGS), (InvalidNumber, BAD_T), (InvalidOperation, BAD_ASKERS)]
        then = [([1, TURN, 1, end], InvalidOperation, None) for end in (0, 1)]
        then += [([3, ((0, 0),) * 8, 4, 0], InvalidOperation, None)]
        self.refuses(broken_by, [1, TURN, 2, ASK], bad, then)
        self.refuses(is_broken_by, [1, TURN, 2, ASK, None], bad + [None], [(arguments + [None], error, kept) for arguments, error, kept in then])


class NotTrue(Case):
    """[20.5]."""

    def test_one_to_one_doublings_can_be_told(self):
        self.assertEqual(len(set(TURN)), 2)
        self.assertEqual(asker_edge(1, TURN, 1, ASK), (1, 2))

    def test_means_of_one_level_alone_do_not_add_up(self):
        doubling, asker = ((0, 1), (0, 0)), (0, ((2, (0, 1)), (2, (1, 1))))
        means = [sum(Fraction(*step_mean(1, doubling, 2, asker, i, j)) for j in (0, 1)) for i in (0, 1)]
        self.assertEqual(means, [Fraction(1, 2), Fraction(-1, 4)])
        self.assertEqual(asker_edge(1, doubling, 2, asker), (1, 4))


if __name__ == "__main__":
    unittest.main()
