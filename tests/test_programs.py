"""Linear programs: known ones on which the steepest turns alone lead round and round."""

import unittest
from fractions import Fraction

from hardbits.game.programs import Program

# So many turns are more than enough for programs of this size.
MOST_TURNS = 100
# The tables are told over a scale that all numbers of the examples, and all turned ones, can be told over.
SCALE = 10 ** 8
ROUND = (
    # Beale.
    ((("1/4", "-8", "-1", "9"), ("1/2", "-12", "-1/2", "3"), ("0", "0", "1", "0")), ("0", "0", "1"),
     ("3/4", "-20", "1/2", "-6"), Fraction(5, 4)),
    ((("1/4", "-60", "-1/25", "9"), ("1/2", "-90", "-1/50", "3"), ("0", "0", "1", "0")), ("0", "0", "1"),
     ("3/4", "-150", "1/50", "-6"), Fraction(1, 20)),
    # Chvatal.
    ((("1/2", "-11/2", "-5/2", "9"), ("1/2", "-3/2", "-1/2", "1"), ("1", "0", "0", "0")), ("0", "0", "1"),
     ("10", "-57", "-9", "-24"), Fraction(1)),
)


class Counted(Program):
    """A program that ends with a failure where it would not end."""

    turns = 0

    def turn(self, at, column):
        self.turns += 1
        if self.turns > MOST_TURNS:
            raise AssertionError("the program turns round and round")
        Program.turn(self, at, column)


class Steep(Counted):
    """The same with the steepest turns alone."""

    def first(self, gaining):
        return self.steepest(gaining)


def scaled(texts):
    return [int(Fraction(text) * SCALE) for text in texts]


def made(kind, rows, bounds, goals):
    program = kind([scaled(row) for row in rows], scaled(bounds), scaled(goals))
    program.scale = SCALE
    return program


class Programs(unittest.TestCase):

    def test_they_end(self):
        for rows, bounds, goals, best in ROUND:
            with self.assertRaises(AssertionError):
                made(Steep, rows, bounds, goals).solve()
            program = made(Counted, rows, bounds, goals)
            program.solve()
            self.assertEqual(Fraction(program.best(), program.scale), best)
            self.check_both_sides(program, rows, bounds, goals, best)

    def check_both_sides(self, program, rows, bounds, goals, best):
        weights = [Fraction(number, program.scale) for number in program.weights()]
        prices = [Fraction(number, program.scale) for number in program.prices()]
        self.assertGreaterEqual(min(weights + prices), 0)
        for row, bound in zip(rows, bounds):
            self.assertLessEqual(sum(Fraction(a) * b for a, b in zip(row, weights)), Fraction(bound))
        for column, goal in zip(zip(*rows), goals):
            self.assertGreaterEqual(sum(Fraction(a) * b for a, b in zip(column, prices)), Fraction(goal))
        self.assertEqual(sum(Fraction(a) * b for a, b in zip(goals, weights)), best)
        self.assertEqual(sum(Fraction(a) * b for a, b in zip(bounds, prices)), best)

    def test_plain_programs(self):
        program = Program([[1, 1], [1, 3]], [4, 6], [3, 5])
        program.solve()
        self.assertEqual(Fraction(program.best(), program.scale), 14)
        self.assertEqual([Fraction(number, program.scale) for number in program.weights()], [3, 1])
        self.assertEqual([Fraction(number, program.scale) for number in program.prices()], [2, 1])
        self.assertEqual((program.used_columns(), program.tight_rows()), ((0, 1), (0, 1)))
        idle = Program([[1]], [1], [-1])
        idle.solve()
        self.assertEqual((idle.best(), idle.weights(), idle.prices()), (0, [0], [0]))


if __name__ == "__main__":
    unittest.main()
