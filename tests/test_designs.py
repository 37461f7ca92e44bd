"""[9.1] to [9.5], and the designs of [0.11]."""

import unittest
from fractions import Fraction
from itertools import combinations, product
from math import comb

from hardbits.errors import InvalidDesign, InvalidNumber, TooMany
from hardbits.words.designs import (MOST_PLACES, MOST_TUPLES, common_number, common_rows, elder_bits, full_answer,
                                    greatest_lots, has_room, is_design, is_full_answer, is_greatest_lots, line_lots,
                                    most_lots)
from tests.support import BAD_NUMBERS, Case, DEEP, HUGE, JUNK

RING = ((0, 1), (1, 2), (0, 2))
TWICE, APART, TURNED = ((0, 1), (0, 1)), ((0, 1), (2, 3)), ((4, 0, 2), (3, 2, 4), (2, 0, 1))
BAD_L = BAD_NUMBERS + (0, 13)
# Wrong designs of places below 3.
BAD_DESIGNS = (None, 1, True, (), ((),), ((), ()), (0, 1), [(0, 1)], ([0, 1],), ((0, 0),), ((0, 1), (1, 1)),
               ((0, 1), (2,)), ((0, 1), (0, 1, 2)), ((0, 1), (1, 0, 1)), ((0, 3),), ((-1, 0),), ((0, True),),
               ((False, 1),), ((0, None),), ((0, (1,)),), ((0, HUGE),), ((0, 1), None), ((0, 1),) * 7, "design", DEEP,
               {}, {0: (0, 1)})


def common(one, other):
    return len(set(one) & set(other))


def sizes(most=12):
    """All l, n and a."""
    return [(l, n, a) for l in range(1, most + 1) for n in range(1, min(6, l) + 1) for a in range(n)]


def n_lots(l, n):
    return list(combinations(range(l), n))


class Designs(Case):

    def test_constants(self):
        self.assertEqual((MOST_PLACES, MOST_TUPLES), (12, 6))

    def test_is_design(self):
        for l, value in ((1, ((0,),)), (1, ((0,),) * 6), (3, RING), (2, TWICE), (4, APART), (5, TURNED),
                         (2, ((1, 0), (0, 1))),
                         (12, ((11, 0, 5, 3, 2, 7),)), (6, ((5, 4, 3, 2, 1, 0),) * 6)):
            self.assertIs(is_design(l, value), True, value)
        for value in JUNK + BAD_DESIGNS:
            self.assertIs(is_design(3, value), False, value)
        self.assertIs(is_design(12, ((0, 1, 2, 3, 4, 5, 6),)), False)
        self.assertIs(is_design(3, RING + RING), True)
        self.assertIs(is_design(3, RING + RING + RING[:1]), False)
        self.assertIs(is_design(2, RING), False)
        self.refuses(is_design, [3, RING], [(InvalidNumber, BAD_L), None])

    def test_common_places(self):
        for l, design in ((3, RING), (2, TWICE), (4, APART), (5, TURNED), (9, line_lots(3, 3, 2, 6)),
                          (2, ((1, 0), (0, 1)))):
            wanted = tuple(tuple(common(one, other) for other in design) for one in design)
            self.assertEqual(common_rows(l, design), wanted)
            for i in range(len(design)):
                for j in range(len(design)):
                    self.assertEqual(common_number(l, design, i, j), wanted[i][j])
                self.assertEqual(elder_bits(l, design, i), sum(2 ** wanted[i][j] for j in range(i)))
        self.assertEqual(common_rows(1, ((0,),) * 2), ((1, 1), (1, 1)))
        self.assertEqual(common_rows(2, TWICE), ((2, 2), (2, 2)))
        self.assertEqual(common_rows(4, APART), ((2, 0), (0, 2)))
        self.assertEqual(elder_bits(3, RING, 0), 0)
        self.assertEqual(elder_bits(6, ((0, 1, 2, 3, 4, 5),) * 6, 5), 320)

    def test_errors(self):
        l, design = (InvalidNumber, BAD_L), (InvalidDesign, BAD_DESIGNS)
        index = (InvalidNumber, BAD_NUMBERS + (3,))
        self.refuses(common_number, [3, RING, 2, 0], [l, design, index, index])
        self.refuses(common_rows, [3, RING], [l, design])
        self.refuses(elder_bits, [3, RING, 2], [l, design, index])
        self.fails_for(InvalidNumber, 1, elder_bits, 3, RING[:1], 1)


class Lines(Case):

    def lots_by_words(self, q, n, a, m):
        found = []
        for number in range(m):
            factors = [number // q ** k % q for k in range(a + 1)]
            values = [sum(factor * i ** k for k, factor in enumerate(factors)) % q for i in range(n)]
            found.append(tuple(q * i + value for i, value in enumerate(values)))
        return tuple(found)

    def test_lines(self):
        for q in (2, 3, 5, 7):
            for n in range(1, min(6, q) + 1):
                for a in range(n):
                    for m in range(1, min(6, q ** (a + 1)) + 1):
                        if n * q > 12:
                            self.fails_for(TooMany, 12, line_lots, q, n, a, m)
                        else:
                            lots = line_lots(q, n, a, m)
                            self.assertEqual(lots, self.lots_by_words(q, n, a, m))
                            self.assertIs(is_design(n * q, lots), True)
                            rows = [common(one, other) for one, other in combinations(lots, 2)]
                            self.assertTrue(all(number <= a for number in rows))

    def test_few_lines(self):
        self.assertEqual(line_lots(2, 1, 0, 2), ((0,), (1,)))
        self.assertEqual(line_lots(7, 1, 0, 6), ((0,), (1,), (2,), (3,), (4,), (5,)))
        self.assertEqual(line_lots(2, 2, 1, 4), ((0, 2), (1, 3), (0, 3), (1, 2)))

    def test_errors(self):
        q = (InvalidNumber, BAD_NUMBERS + (0, 1, 4, 6, 8, 9, 11))
        wrong = [q, (InvalidNumber, BAD_NUMBERS + (0, 4)), (InvalidNumber, BAD_NUMBERS + (3,)),
                 (InvalidNumber, BAD_NUMBERS + (0, 7))]
        self.refuses(line_lots, [3, 3, 1, 4], wrong, [((5, 3, 1, 2), TooMany, 12), ((7, 6, 0, 1), TooMany, 12)])
        wrong = [q, (InvalidNumber, BAD_NUMBERS + (0, 3)), (InvalidNumber, BAD_NUMBERS + (2,)),
                 (InvalidNumber, BAD_NUMBERS + (0, 3, 5))]
        self.refuses(line_lots, [2, 2, 0, 2], wrong)
        self.fails_for(InvalidNumber, 7, line_lots, 7, 7, 0, 1)
        self.fails_for(InvalidNumber, 3, line_lots, 5, 3, 3, 1)
        self.fails_for(InvalidNumber, 6, line_lots, 5, 3, 0, 6)


class Room(Case):

    def is_right(self, l, n, a, lots, value):
        """Whether the value is right by the words of [9.3]."""
        kind, told = value
        if kind == "more":
            return told in n_lots(l, n) and all(common(told, lot) <= a for lot in lots)
        return (len(told) == comb(l, n) and all(0 <= k < len(lots) for k in told)
                and all(common(lot, lots[k]) > a for lot, k in zip(n_lots(l, n), told)))

    def some_lots(self, l, n):
        everything = n_lots(l, n)
        yield ()
        yield tuple(everything[:1])
        yield tuple(everything[-2:])
        yield tuple(everything[::3])[:32]
        yield tuple((everything * 32)[:32])
        yield tuple(everything[:2] * 2)

    def test_just_one_of_both(self):
        for l, n, a in sizes(7) + [(12, 6, 2), (12, 1, 0), (12, 3, 1), (8, 6, 3)]:
            for lots in self.some_lots(l, n):
                answer = full_answer(l, n, a, lots)
                room = any(all(common(lot, other) <= a for other in lots) for lot in n_lots(l, n))
                self.assertEqual(answer[0], "more" if room else "full")
                self.assertTrue(self.is_right(l, n, a, lots, answer))
                self.assertIs(is_full_answer(l, n, a, lots, answer), True)
                for lot in n_lots(l, n):
                    value = ("more", lot)
                    self.assertIs(is_full_answer(l, n, a, lots, value), self.is_right(l, n, a, lots, value))

    def test_the_judge_takes_all_right_indices_and_no_others(self):
        for l, n, a, lots in ((3, 2, 0, ((0, 1), (1, 2))), (4, 1, 0, ((0,), (1,), (2,), (3,))),
                              (3, 2, 1, ((0, 1), (1, 2))),
                              (4, 3, 1, ((0, 1, 2), (1, 2, 3))), (3, 2, 1, ((0, 1), (1, 2), (0, 2)))):
            for indices in product(range(-1, len(lots) + 1), repeat=comb(l, n)):
                value = ("full", indices)
                self.assertIs(is_full_answer(l, n, a, lots, value), self.is_right(l, n, a, lots, value))

    def test_near_values(self):
        self.judged(is_full_answer, (4, 2, 0, ((0, 1),)), (("more", (2, 3)),),
                    (("more", (3, 2)), ("more", (0, 1)), ("more", (1, 2)), ("more", (2, 4)), ("more", (2,)),
                     ("more", (2, 3, 3)), ("more", (2, 2)), ("more", (2, HUGE)), ("full", (0,) * 6), ("full", ())))
        self.judged(is_full_answer, (3, 2, 0, ((0, 1), (1, 2))), (("full", (0, 0, 1)), ("full", (1, 1, 0))),
                    (("full", (0, 0)), ("full", (0, 0, 1, 0)), ("full", (0, 0, 2)), ("full", (0, 0, -1)),
                     ("full", (0, 0, HUGE)),
                     ("more", (0, 1)), ("more", (0, 2))))
        self.judged(is_full_answer, (3, 2, 1, ((0, 1),)), (("more", (0, 2)), ("more", (1, 2))), (("more", (0, 1)),))

    def test_counted(self):
        for l, n, a in sizes():
            self.assertEqual(most_lots(l, n, a), Fraction(comb(l, a + 1), comb(n, a + 1)).__floor__())
            first = tuple(range(n))
            barred = sum(common(first, lot) > a for lot in n_lots(l, n))
            for m in sorted({0, 1, comb(l, n) // barred, -(-comb(l, n) // barred), comb(l, n) // barred + 1, 999}):
                self.assertIs(has_room(l, n, a, m), m * barred < comb(l, n), (l, n, a, m))

    def test_room_by_the_count_is_room(self):
        for l, n, a in sizes(6):
            for lots in self.some_lots(l, n):
                if has_room(l, n, a, len(lots)):
                    self.assertEqual(full_answer(l, n, a, lots)[0], "more")

    def test_errors(self):
        l, n, a = (InvalidNumber, BAD_L), (InvalidNumber, BAD_NUMBERS + (0, 5)), (InvalidNumber, BAD_NUMBERS + (2,))
        bad = (None, 1, True, [(0, 1)], ([0, 1],), ((1, 0),), ((0, 0),), ((0, 4),), ((-1, 0),), ((0,),), ((0, 1, 2),),
               ((),),
               ((0, True),), ((0, None),), ((0, 1), None), (0, 1), ((0, 1),) * 33, ((0, HUGE),), "lots", DEEP, {})
        lots = (InvalidDesign, bad)
        self.refuses(full_answer, [4, 2, 0, ((0, 1),)], [l, n, a, lots])
        self.refuses(full_answer, [4, 2, 1, ()], [l, n, a, lots])
        self.refuses(is_full_answer, [4, 2, 0, ((0, 1),) * 32, None], [l, n, a, lots, None])
        self.refuses(most_lots, [4, 2, 1], [l, n, a])
        self.refuses(has_room, [4, 2, 1, 999], [l, n, a, (InvalidNumber, BAD_NUMBERS + (1000,))])
        self.fails_for(InvalidNumber, 7, most_lots, 12, 7, 0)


class Greatest(Case):

    def small_sizes(self):
        return [(l, n, a) for l, n, a in sizes() if comb(l, n) <= 20]

    def are_apart(self, l, n, a, lots):
        return (list(lots) == sorted(set(lots)) and all(lot in n_lots(l, n) for lot in lots)
                and all(common(one, other) <= a for one, other in combinations(lots, 2)))

    def greatest_by_words(self, l, n, a):
        """How many lots there can be, each two with at most a common places: tried by how many are taken."""
        everything = n_lots(l, n)
        fits = [sum(1 << k for k, lot in enumerate(everything) if k > j and common(lot, everything[j]) <= a)
                for j in range(len(everything))]
        best, todo = 0, [(0, (1 << len(everything)) - 1)]
        while todo:
            taken, free = todo.pop()
            best = max(best, taken)
            if taken + free.bit_count() > best:
                for k in range(len(everything)):
                    if free >> k & 1:
                        todo.append((taken + 1, free & fits[k]))
        return best

    def test_greatest(self):
        for l, n, a in self.small_sizes():
            lots = greatest_lots(l, n, a)
            self.assertTrue(self.are_apart(l, n, a, lots))
            self.assertEqual(len(lots), self.greatest_by_words(l, n, a), (l, n, a))
            self.assertLessEqual(len(lots), most_lots(l, n, a))
            self.assertEqual(full_answer(l, n, a, lots)[0], "full")
            self.assertIs(is_greatest_lots(l, n, a, lots), True)

    def test_the_judge_takes_all_right_lots_and_no_others(self):
        for l, n, a in ((4, 2, 0), (4, 2, 1), (4, 1, 0), (3, 2, 0), (4, 3, 1), (4, 3, 2), (5, 4, 2), (1, 1, 0),
                        (2, 2, 1)):
            most = self.greatest_by_words(l, n, a)
            everything = n_lots(l, n)
            for size in range(len(everything) + 1):
                for lots in combinations(everything, size):
                    right = size == most and self.are_apart(l, n, a, lots)
                    self.assertIs(is_greatest_lots(l, n, a, lots), right)

    def test_near_values(self):
        right = (((0, 1), (2, 3)), ((0, 2), (1, 3)), ((0, 3), (1, 2)))
        wrong = (((2, 3), (0, 1)), ((0, 1),), ((0, 1), (1, 2)), ((1, 0), (2, 3)), ((0, 1), (0, 1)), ((0, 1), (2, 4)),
                 (),
                 ((0, 1), (2, 3), (2, 3)), ((0, 1), (2,)), ((0, 1), (2, HUGE)))
        self.judged(is_greatest_lots, (4, 2, 0), right, wrong)

    def test_errors(self):
        wrong = [(InvalidNumber, BAD_L), (InvalidNumber, BAD_NUMBERS + (0, 5)), (InvalidNumber, BAD_NUMBERS + (2,))]
        much = [((7, 2, 0), TooMany, 20), ((12, 6, 5), TooMany, 20), ((7, 4, 3), TooMany, 20)]
        self.refuses(greatest_lots, [4, 2, 1], wrong, much)
        self.refuses(is_greatest_lots, [4, 2, 1, None], wrong + [None],
                     [(case[0] + (None,),) + case[1:] for case in much])

    def test_what_is_not_true(self):
        # Beside these two no further lot has room, but four are the most.
        self.assertEqual(full_answer(6, 3, 1, ((0, 1, 2), (3, 4, 5)))[0], "full")
        self.assertEqual(len(greatest_lots(6, 3, 1)), 4)
        # The count tells no room for two lots, but these two leave some.
        self.assertIs(has_room(6, 3, 1, 2), False)
        self.assertEqual(full_answer(6, 3, 1, ((0, 1, 2), (0, 3, 4)))[0], "more")


if __name__ == "__main__":
    unittest.main()
