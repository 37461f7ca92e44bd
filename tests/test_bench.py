"""[22.3] and [22.4]: the bench. What it holds and replies is worked out here by the words of the document."""

import random
import re
import unittest
from fractions import Fraction

from hardbits.errors import HardError, InvalidNumber, InvalidOperation, ParseError, TooMany
from hardbits.use.bench import Bench
from tests.support import BAD_NUMBERS, Case, DEEP, HUGE
from tests.test_strings import excess_by_words
from tests.test_texts import INTEGER, is_fraction_line


class Model:
    """A bench by the words of the document: a dict of what it holds, and all that was ahead."""

    def __init__(self, l):
        self.l, self.held, self.past = l, {"design": (), "test": None, "string": None, "edge": None}, []

    def is_place(self, word, taken):
        return re.fullmatch(INTEGER, word) is not None and 0 <= int(word) < self.l and word not in taken

    def wrong_word(self, words):
        """The index of the first word that is wrong, wanting or too much, or None."""
        design = self.held["design"]
        if words[0] == "tuple":
            for at in range(1, len(words)):
                if at > (len(design[0]) if design else 5) or not self.is_place(words[at], words[1:at]):
                    return at
            return len(words) if len(words) - 1 < (len(design[0]) if design else 1) else None
        if words[0] in ("undo", "excess", "side"):
            return 1 if len(words) > 1 else None
        if words[0] not in ("drop", "test", "string", "edge"):
            return 0
        if len(words) == 1 or not self.is_argument(words[0], words[1]):
            return 1
        return 2 if len(words) > 2 else None

    def is_argument(self, kind, word):
        design = self.held["design"]
        if kind == "drop":
            return re.fullmatch(INTEGER, word) is not None and 0 <= int(word) < len(design)
        if kind == "edge":
            return is_fraction_line(word) and 0 < Fraction(word) <= 1
        if not design:
            return False
        bits = 2 ** len(design) if kind == "test" else len(design[0])
        return re.fullmatch(f"[01]{{{bits}}}", word) is not None

    def tell(self, line):
        """The reply, or the error's name and what it keeps."""
        words = line.split(" ")
        wrong = self.wrong_word(words)
        if wrong is not None:
            return ("ParseError", wrong)
        now = dict(self.held)
        if words[0] == "tuple":
            if len(now["design"]) == 6:
                return ("TooMany", 6)
            now["design"], now["test"] = now["design"] + (tuple(map(int, words[1:])),), None
        elif words[0] == "drop":
            k = int(words[1])
            now["design"], now["test"] = now["design"][:k] + now["design"][k + 1:], None
            now["string"] = now["string"] if now["design"] else None
        elif words[0] in ("test", "string"):
            now[words[0]] = tuple(map(int, words[1]))
        elif words[0] == "edge":
            now["edge"] = tuple(map(int, words[1].split("/")))
        else:
            return self.ask(words[0])
        self.past.append(self.held)
        self.held = now
        if words[0] in ("tuple", "drop"):
            return self.tuples()
        return "kept"

    def tuples(self):
        design = self.held["design"]
        return f"{len(design)} tuples of {len(design[0])}" if design else "no tuples"

    def ask(self, word):
        held = self.held
        if word == "undo":
            if not self.past:
                return ("InvalidOperation", None)
            self.held = self.past.pop()
            return "undone"
        if not held["design"] or held["test"] is None or held["string"] is None or (word == "side" and held["edge"] is None):
            return ("InvalidOperation", None)
        excess = excess_by_words(self.l, held["design"], held["test"], held["string"])
        if word == "excess":
            return f"{excess.numerator}/{excess.denominator}"
        return "within" if 2 * abs(excess) <= len(held["design"]) * Fraction(*held["edge"]) else "advice"


def told(bench, line):
    """What the bench replies, or the error's name and what it keeps."""
    try:
        return bench.tell(line)
    except HardError as error:
        kept = [getattr(error, name) for name in ("at", "most") if hasattr(error, name)]
        return (type(error).__name__, kept[0] if kept else None)


def standing(bench):
    return {"design": bench.design, "test": bench.test, "string": bench.string, "edge": bench.edge}


def some_line(source, model):
    """A line, mostly one that is done, sometimes with a word changed, lacking or too much."""
    design, l = model.held["design"], model.l
    n = len(design[0]) if design else source.randint(1, min(5, l))
    kind = source.choice(("tuple", "tuple", "drop", "test", "test", "string", "string", "edge", "undo", "excess", "excess", "side", "side"))
    line = kind
    if kind == "tuple":
        line += "".join(f" {place}" for place in source.sample(range(l), min(n, l)))
    if kind == "drop":
        line += f" {source.randrange(max(1, len(design)))}"
    if kind in ("test", "string"):
        count = 2 ** len(design) if kind == "test" else n
        line += " " + "".join(source.choice("01") for _ in range(count))
    if kind == "edge":
        line += source.choice((" 1/2", " 1/4", " 1/1", " 2/3", " 1/9"))
    if source.random() < 0.2:
        words = line.split(" ")
        at = source.randrange(len(words) + 1)
        bad = source.choice(("", "x", "0", "12", "-1", "01", "2/4", "3/2", "0/1", "tuple", "1", "0101", "-0", "+1"))
        words = source.choice((words[:at] + [bad] + words[at:], words[:at] + words[at + 1:], words[:at] + [bad] + words[at + 1:]))
        line = " ".join(words)
    return line


class Benches(Case):

    def filled(self, *lines, l=3):
        bench = Bench(l)
        for line in lines:
            bench.tell(line)
        return bench

    def wrong(self, bench, line, at):
        """Checks that the line is wrong at this word, and that nothing is changed."""
        before = (standing(bench), bench.lines, len(bench), str(bench))
        self.assertEqual(self.fails(ParseError, bench.tell, line).at, at, line)
        self.assertEqual((standing(bench), bench.lines, len(bench), str(bench)), before)

    def lacks(self, bench, line, error=InvalidOperation):
        before = (standing(bench), bench.lines)
        found = self.fails(error, bench.tell, line)
        self.assertEqual((standing(bench), bench.lines), before)
        return found

    def test_new_benches(self):
        for l in range(1, 13):
            bench = Bench(l)
            self.assertEqual((bench.l, bench.lines, len(bench), str(bench)), (l, (), 0, f"bench of {l} places, 0 tuples"))
            self.assertEqual(standing(bench), {"design": (), "test": None, "string": None, "edge": None})
        for value in BAD_NUMBERS + (0, 13):
            self.fails_for(InvalidNumber, value, Bench, value)

    def test_each_kind_of_line(self):
        bench = Bench(5)
        self.assertEqual(bench.tell("tuple 0 4"), "1 tuples of 2")
        self.assertEqual((bench.design, len(bench), str(bench)), (((0, 4),), 1, "bench of 5 places, 1 tuples"))
        self.assertEqual(bench.tell("string 10"), "kept")
        self.assertEqual(bench.tell("test 01"), "kept")
        self.assertEqual((bench.test, bench.string), ((0, 1), (1, 0)))
        self.assertEqual(bench.tell("tuple 4 1"), "2 tuples of 2")
        self.assertEqual((bench.test, bench.string, str(bench)), (None, (1, 0), "bench of 5 places, 2 tuples"))
        self.assertEqual(bench.tell("test 0110"), "kept")
        self.assertEqual(bench.tell("excess"), "0/1")
        self.assertEqual(bench.tell("edge 2/3"), "kept")
        self.assertEqual((bench.edge, bench.tell("side")), ((2, 3), "within"))
        self.assertEqual(bench.tell("drop 0"), "1 tuples of 2")
        self.assertEqual(standing(bench), {"design": ((4, 1),), "test": None, "string": (1, 0), "edge": (2, 3)})
        self.assertEqual(bench.tell("drop 0"), "no tuples")
        self.assertEqual(standing(bench), {"design": (), "test": None, "string": None, "edge": (2, 3)})
        self.assertEqual(bench.tell("undo"), "undone")
        self.assertEqual(standing(bench), {"design": ((4, 1),), "test": None, "string": (1, 0), "edge": (2, 3)})
        self.assertEqual(bench.lines, ("tuple 0 4", "string 10", "test 01", "tuple 4 1", "test 0110", "excess", "edge 2/3", "side", "drop 0", "drop 0", "undo"))
        self.assertIsInstance(bench.lines, tuple)

    def test_excess_and_side(self):
        bench = self.filled("tuple 0 1", "tuple 1 0", "test 1001", "string 11")
        self.assertEqual(bench.tell("excess"), "1/2")
        bench.tell("test 0110")
        self.assertEqual(bench.tell("excess"), "-1/2")
        # m e / 2 is just the amount of the excess for e of 1 / 2.
        for edge, side in (("1/2", "within"), ("499999999/999999999", "advice"), ("1/1", "within"), ("1/999999999", "advice")):
            bench.tell(f"edge {edge}")
            self.assertEqual(bench.tell("side"), side)
        bench.tell("string 00")
        self.assertEqual(bench.tell("excess"), "-1/2")

    def test_undo(self):
        lines = ("tuple 0 1", "string 10", "tuple 1 2", "test 0111", "edge 1/3", "test 1110", "edge 1/2", "string 01", "drop 0", "tuple 2 0", "drop 0", "drop 0")
        bench, stands = Bench(3), []
        for line in lines:
            stands.append(standing(bench))
            bench.tell(line)
        # Lines that only ask are not taken back.
        self.lacks(bench, "excess")
        for stand in reversed(stands):
            self.assertEqual(bench.tell("undo"), "undone")
            self.assertEqual(standing(bench), stand)
        self.lacks(bench, "undo")
        self.assertEqual(bench.lines, lines + ("undo",) * len(lines))
        # What was taken back is gone: a further undo goes on to the line ahead of it.
        bench.tell("edge 1/3")
        bench.tell("edge 1/4")
        bench.tell("undo")
        bench.tell("edge 1/5")
        bench.tell("undo")
        self.assertEqual(bench.edge, (1, 3))
        bench.tell("undo")
        self.assertIsNone(bench.edge)
        self.lacks(bench, "undo")

    def test_undo_passes_lines_that_only_ask(self):
        bench = self.filled("tuple 0 1", "string 10", "test 01", "edge 1/2", "excess", "side", "excess")
        bench.tell("undo")
        self.assertEqual((bench.edge, bench.test), (None, (0, 1)))
        self.assertEqual(len(bench.lines), 8)

    def test_what_goes_with_the_last_tuple(self):
        bench = self.filled("tuple 0 1", "string 10", "test 01", "edge 1/2")
        self.assertEqual(bench.tell("drop 0"), "no tuples")
        self.assertEqual(standing(bench), {"design": (), "test": None, "string": None, "edge": (1, 2)})
        # A new tuple can have another number of places then.
        self.assertEqual(bench.tell("tuple 2 1 0"), "1 tuples of 3")
        bench.tell("undo")
        bench.tell("undo")
        self.assertEqual(standing(bench), {"design": ((0, 1),), "test": (0, 1), "string": (1, 0), "edge": (1, 2)})

    def test_the_test_goes_with_each_tuple(self):
        bench = self.filled("tuple 0 1", "tuple 1 2", "string 10", "test 0110")
        bench.tell("tuple 0 2")
        self.assertEqual((bench.test, bench.string), (None, (1, 0)))
        bench.tell("test 01101001")
        bench.tell("drop 1")
        self.assertEqual((bench.test, bench.string, bench.design), (None, (1, 0), ((0, 1), (0, 2))))
        bench.tell("undo")
        self.assertEqual(bench.test, (0, 1, 1, 0, 1, 0, 0, 1))

    def test_what_lacks(self):
        bench = Bench(3)
        for line in ("excess", "side", "undo"):
            self.lacks(bench, line)
        bench.tell("edge 1/2")
        for line in ("tuple 0 1", "string 10"):
            bench.tell(line)
            self.lacks(bench, "excess")
            self.lacks(bench, "side")
        bench.tell("test 01")
        bench.tell("excess")
        bench.tell("side")
        bench = self.filled("tuple 0 1", "test 01")
        self.lacks(bench, "excess")
        self.lacks(bench, "side")
        bench.tell("string 10")
        bench.tell("excess")
        self.lacks(bench, "side")
        # A wrong word comes ahead of what lacks.
        self.wrong(Bench(3), "excess 1", 1)
        self.wrong(Bench(3), "undo ", 1)
        self.wrong(Bench(3), "side x y", 1)

    def test_a_seventh_tuple(self):
        bench = self.filled(*["tuple 0 1"] * 6)
        self.assertEqual(len(bench), 6)
        self.assertEqual(self.lacks(bench, "tuple 1 0", TooMany).most, 6)
        # Wrong words come ahead of it.
        for line, at in (("tuple", 1), ("tuple 0", 2), ("tuple 0 0", 2), ("tuple 0 1 2", 3), ("tuple 3 1", 1)):
            self.wrong(bench, line, at)
        self.assertEqual(bench.tell("test " + "01" * 32), "kept")
        self.assertEqual(bench.tell("drop 5"), "5 tuples of 2")
        self.assertEqual(bench.tell("tuple 1 0"), "6 tuples of 2")

    def test_wrong_words(self):
        empty, bench = Bench(3), self.filled("tuple 0 1", "tuple 1 2")
        for line, at in (("", 0), (" ", 0), ("x", 0), ("Tuple 0", 0), ("tuples 0", 0), (" tuple 0", 0), ("tuple\n", 0), ("tuple\t0", 0), ("undo\n", 0), ("0", 0), ("len", 0), ("undone", 0)):
            self.wrong(empty, line, at)
            self.wrong(bench, line, at)
        for line, at in (("tuple", 1), ("tuple ", 1), ("tuple  0", 1), ("tuple 0 ", 2), ("tuple 0  1", 2), ("tuple 3", 1), ("tuple -1", 1), ("tuple -0", 1), ("tuple 00", 1), ("tuple 01", 1), ("tuple +1", 1),
                         ("tuple 0 0", 2), ("tuple 0 1 0", 3), ("tuple 0 1 2 0", 4), ("tuple x", 1), ("tuple 0 x", 2), ("tuple 0\n", 1), ("tuple 1.0", 1), ("tuple \u0661", 1),
                         ("tuple 1000000000", 1), ("tuple " + "9" * 100, 1), ("drop", 1), ("drop 0", 1), ("drop x 0", 1), ("test", 1), ("test 0", 1), ("test 01", 1), ("test 01 1", 1), ("string", 1), ("string 0", 1),
                         ("edge", 1), ("edge ", 1), ("edge 0/1", 1), ("edge 2/4", 1), ("edge 3/2", 1), ("edge -1/2", 1), ("edge 1", 1), ("edge 1/2 ", 2), ("edge 1/2 3", 2), ("edge 1 / 2", 1), ("edge 1/2\n", 1),
                         ("edge 1/1000000000", 1), ("edge 1/0", 1), ("edge 1/-2", 1), ("edge 01/2", 1), ("edge x 1", 1), ("undo 1", 1), ("excess ", 1), ("side  ", 1)):
            self.wrong(empty, line, at)
        for line, at in (("tuple", 1), ("tuple 0", 2), ("tuple 0 1 2", 3), ("tuple 0 3", 2), ("tuple 0 0", 2), ("tuple 0 0 0", 2), ("tuple 3 3 3", 1), ("drop", 1), ("drop 2", 1), ("drop -1", 1), ("drop 0 ", 2), ("drop 0 1", 2),
                         ("drop 00", 1), ("drop x", 1), ("drop 9999999999", 1), ("test", 1), ("test 011", 1), ("test 01101", 1), ("test 0112", 1), ("test 0110 0", 2), ("test 011x 0", 1), ("test 0110\n", 1), ("test 01 10", 1),
                         ("string", 1), ("string 1", 1), ("string 101", 1), ("string 1x", 1), ("string 10 1", 2), ("string +1", 1)):
            self.wrong(bench, line, at)
        big = Bench(12)
        self.wrong(big, "tuple 0 1 2 3 4 5", 6)
        self.wrong(big, "tuple 0 1 2 3 4 0 12", 6)
        self.wrong(big, "tuple 0 1 2 12 4 5", 4)
        self.assertEqual(big.tell("tuple 11 10 2 3 4"), "1 tuples of 5")
        self.wrong(big, "tuple 0 1 2 3 4 5", 6)
        self.wrong(big, "tuple 0 1 2 3", 5)
        self.assertEqual(big.tell("string 01101"), "kept")

    def test_lines_that_are_no_strings(self):
        bench = self.filled("tuple 0 1")
        for value in (None, 1, True, ("undo",), ["undo"], b"undo", {}, DEEP, HUGE, bench):
            self.wrong(bench, value, None)

    def test_drawn_lines(self):
        replies = {}
        for seed in range(150):
            source = random.Random(seed)
            l = source.choice((1, 2, 3, 4, 6))
            bench, model, lines = Bench(l), Model(l), []
            for _ in range(60):
                line = some_line(source, model)
                wanted = model.tell(line)
                self.assertEqual(told(bench, line), wanted, (bench.lines, line))
                self.assertEqual(standing(bench), model.held)
                if isinstance(wanted, str):
                    lines.append(line)
                    wanted = wanted.split(" ")[-1]
                replies[wanted] = replies.get(wanted, 0) + 1
                self.assertEqual(bench.lines, tuple(lines))
                self.assertEqual((len(bench), str(bench)), (len(model.held["design"]), f"bench of {l} places, {len(model.held['design'])} tuples"))
            # A new bench that is told the lines stands alike.
            again = Bench(l)
            for line in bench.lines:
                again.tell(line)
            self.assertEqual((standing(again), again.lines, again.l, str(again)), (standing(bench), bench.lines, l, str(bench)))
            while told(bench, "undo") == "undone":
                self.assertEqual(told(again, "undo"), "undone")
                self.assertEqual(standing(again), standing(bench))
        for word in ("within", "advice", "undone", "kept", "tuples", ("ParseError", 0), ("ParseError", 1), ("ParseError", 2), ("ParseError", 3), ("InvalidOperation", None)):
            self.assertGreater(replies.get(word, 0), 20, word)

    def test_benches_are_apart(self):
        one, other = Bench(3), Bench(3)
        one.tell("tuple 0 1")
        self.assertEqual((len(other), other.lines, other.design), (0, (), ()))
        self.assertFalse(one == other)
        self.assertTrue(one != DEEP)
        self.assertFalse(one in (1, None, "x", DEEP))


if __name__ == "__main__":
    unittest.main()
