"""[22.1] and [22.2]: texts. What is read is worked out here by the words of the document."""

import random
import re
import unittest
from fractions import Fraction

from hardbits.errors import (InvalidDesign, InvalidFraction, InvalidNumber, InvalidOperation, InvalidRow, InvalidTruth,
                             InvalidWord, ParseError)
from hardbits.use.texts import (asker_text, design_text, fraction_text, read_asker, read_design, read_fraction, read_row,
                                read_test, read_truth, row_text, test_text as text_of_test, truth_text)
from tests.support import BAD_FRACTIONS, BAD_NUMBERS, BAD_ROWS, Case, DEEP, HUGE
from tests.test_designs import BAD_DESIGNS
from tests.test_draws import BAD_TABLES
from tests.test_fractions import pair
from tests.test_trees import BAD_ASKERS, BAD_N, BAD_T, drawn_asker, question
from tests.test_truths import BAD_TRUTHS, some_truths

INTEGER = r"(?:0|-?[1-9][0-9]{0,8})"
BAD_TEXTS = (None, 1, True, ("1/2\n",), ["1/2\n"], b"1/2\n", {}, (), DEEP)
# Signs that are put into right texts, or in the place of others.
SIGNS = "019-+/: \n\r\taskxz.,_"
LONGEST = 999999999
BAD_DESIGN_L = BAD_NUMBERS + (0, 13)


def lines_of(text):
    """The lines of a text, each one with its end, if it has one."""
    return re.findall(r"[^\n]*\n|[^\n]+$", text)


def first_wrong(text, is_line):
    """The index at which a text of one line is wrong, or None."""
    lines = lines_of(text)
    if not lines or not lines[0].endswith("\n") or not is_line(lines[0][:-1]):
        return 0
    return 1 if len(lines) > 1 else None


def is_fraction_line(line):
    match = re.fullmatch(f"({INTEGER})/({INTEGER})", line)
    if not match or int(match[2]) < 1:
        return False
    return Fraction(int(match[1]), int(match[2])).denominator == int(match[2])


def is_row_line(line):
    match = re.fullmatch(f"({INTEGER}):((?: {INTEGER})+)", line)
    return bool(match) and int(match[1]) >= 1 and len(match[2].split()) <= 64


def is_truth_line(line):
    return re.fullmatch(r"[+-]{1,32}", line) is not None


def is_test_line(m, line):
    return re.fullmatch(f"[01]{{{2 ** m}}}", line) is not None


def first_wrong_of_design(l, text):
    lines, design = lines_of(text), []
    for at, line in enumerate(lines):
        if not re.fullmatch(f"{INTEGER}(?: {INTEGER})*\n", line) or at == 6:
            return at
        places = [int(word) for word in line.split()]
        if len(places) > 6 or len(set(places)) < len(places) or not all(0 <= place < l for place in places):
            return at
        if design and len(design[0]) != len(places):
            return at
        design.append(places)
    return None if design else 0


def first_wrong_of_asker(n, t, text):
    lines, wanted = lines_of(text), [0]
    for at, line in enumerate(lines):
        if not wanted:
            return at
        above = wanted.pop()
        if line in ("0\n", "1\n"):
            continue
        match = re.fullmatch(f"ask ({INTEGER})\n", line)
        if not match or above == 3 or not 0 <= int(match[1]) < 2 ** t:
            return at
        wanted += [above + 1] * 2 ** n
    return len(lines) if wanted else None


def bent(source, text, many):
    """Texts near to this one: a sign put in, left out or changed; a line left out or told twice; the end left out."""
    for _ in range(many):
        at = source.randrange(len(text) + 1)
        sign = source.choice(SIGNS)
        yield from (text[:at] + sign + text[at:], text[:at] + text[at + 1:], text[:at] + sign + text[at + 1:])
        lines = text.split("\n")
        k = source.randrange(len(lines))
        yield "\n".join(lines[:k] + lines[k + 1:])
        yield "\n".join(lines[:k] + lines[k:k + 1] + lines[k:])
    yield from (text[:-1], text + "\n", text + text, "\n" + text, " " + text, text[:-1] + " \n", text.replace("\n", "\r\n"), text.replace("\n", "\r"),
                text + " ", text.replace(" ", "  "), text.upper() + "?", text.replace("0", "00"), text.replace("1", "01"), "", "\n")


class TextCase(Case):

    def checks(self, read, arguments, write, text, wrong):
        """Checks that a text is read as the words tell: refused at this index, or the text of what is read."""
        if wrong is None:
            value = read(*arguments, text)
            self.assertEqual(write(*arguments, value), text)
        else:
            self.assertEqual(self.fails(ParseError, read, *arguments, text).at, wrong, repr(text))

    def refuses_others(self, read, arguments):
        for value in BAD_TEXTS:
            self.assertIsNone(self.fails(ParseError, read, *arguments, value).at)
        self.assertEqual(self.fails(ParseError, read, *arguments, "").at, 0)


class OneLine(TextCase):

    def test_fractions(self):
        source = random.Random(1)
        numbers = [(0, 1), (1, 1), (-1, 1), (-3, 2), (LONGEST, LONGEST - 1), (-LONGEST, 1), (1, LONGEST), (10, 7)]
        numbers += [pair(Fraction(source.randint(-99, 99), source.randint(1, 99))) for _ in range(30)]
        for number in numbers:
            text = fraction_text(number)
            self.assertEqual(text, f"{number[0]}/{number[1]}\n")
            self.assertEqual(read_fraction(text), number)
            for near in bent(source, text, 20):
                self.checks(read_fraction, (), fraction_text, near, first_wrong(near, is_fraction_line))
        for text in ("2/4\n", "0/2\n", "1/0\n", "0/0\n", "-0/1\n", "1/-2\n", "-1/-2\n", "+1/2\n", "01/2\n", "1/02\n", "1 /2\n", "1/ 2\n", "1/2 \n", " 1/2\n", "1\n", "/\n", "1/\n",
                     "/2\n", "1/2/3\n", "1000000000/1\n", "1/1000000000\n", "1.0/2\n", "1_0/3\n", "--1/2\n", "\u0661/2\n", "\u00b2/3\n", "1/2\x0b\n", "1/2\x00\n", "-/2\n", "1/2\r\n", "1/2\r", "1/2"):
            self.assertEqual(self.fails(ParseError, read_fraction, text).at, 0, repr(text))
        for text in ("1/2\n\n", "1/2\n1/2\n", "1/2\n ", "1/2\nx"):
            self.assertEqual(self.fails(ParseError, read_fraction, text).at, 1, repr(text))
        self.refuses_others(read_fraction, ())
        self.refuses(fraction_text, [(-3, 2)], [(InvalidFraction, BAD_FRACTIONS)])

    def test_rows(self):
        source = random.Random(2)
        rows = [(1, (0,)), (2, (3, -1, 4)), (LONGEST, (LONGEST, -LONGEST)), (4, (2, 6)), (5, (0, 0)), (1, (7,) * 64)]
        rows += [(source.randint(1, 99), tuple(source.randint(-99, 99) for _ in range(source.randint(1, 9)))) for _ in range(30)]
        for row in rows:
            text = row_text(row)
            self.assertEqual(text, f"{row[0]}:" + "".join(f" {number}" for number in row[1]) + "\n")
            # In the terms of the text: not in least terms.
            self.assertEqual(read_row(text), row)
            for near in bent(source, text, 10):
                self.checks(read_row, (), row_text, near, first_wrong(near, is_row_line))
        for text in ("2:\n", "2: \n", "2:3\n", "2 : 3\n", "2:  3\n", "2: 3 \n", " 2: 3\n", "2 3\n", ": 3\n", "0: 3\n", "-1: 3\n", "1: -0\n", "1: 03\n", "01: 3\n", "1: 1000000000\n",
                     "1000000000: 1\n", "1:" + " 1" * 65 + "\n", "1:: 1\n", "1: 1:\n", "1: +1\n", "1: 1,2\n", "1:\t1\n", "1: 1"):
            self.assertEqual(self.fails(ParseError, read_row, text).at, 0, repr(text))
        self.assertEqual(read_row("1:" + " 1" * 64 + "\n"), (1, (1,) * 64))
        self.assertEqual(self.fails(ParseError, read_row, "1: 1\n1: 1\n").at, 1)
        self.refuses_others(read_row, ())
        bad = BAD_ROWS + ((1, (1,) * 65), (10 ** 9, (1,)), (1, (10 ** 9,)), (1, (1, -10 ** 9)), (HUGE, (HUGE,)), (1, (0, HUGE)))
        self.refuses(row_text, [(2, (3, -1))], [(InvalidRow, bad)])

    def test_truths(self):
        source = random.Random(3)
        truths = [f for points in (1, 2, 3, 31, 32) for f in some_truths(points, 5, points)]
        for f in truths:
            text = truth_text(f)
            self.assertEqual(text, "".join({1: "+", -1: "-"}[sign] for sign in f) + "\n")
            self.assertEqual(read_truth(text), f)
            for near in bent(source, text, 8):
                self.checks(read_truth, (), truth_text, near, first_wrong(near, is_truth_line))
        for text in ("\n", "+ -\n", "+" * 33 + "\n", "+0\n", "++ \n", " ++\n", "+\r\n", "\u2212\n", "++"):
            self.assertEqual(self.fails(ParseError, read_truth, text).at, 0, repr(text))
        self.assertEqual(self.fails(ParseError, read_truth, "+\n-\n").at, 1)
        self.refuses_others(read_truth, ())
        self.refuses(truth_text, [(1, -1, 1)], [(InvalidTruth, BAD_TRUTHS)])

    def test_tests(self):
        source = random.Random(4)
        for m in range(1, 7):
            for _ in range(4):
                test = tuple(source.randint(0, 1) for _ in range(2 ** m))
                text = text_of_test(m, test)
                self.assertEqual(text, "".join(map(str, test)) + "\n")
                self.assertEqual(read_test(m, text), test)
                for near in bent(source, text, 8):
                    self.checks(read_test, (m,), text_of_test, near, first_wrong(near, lambda line: is_test_line(m, line)))
                for other in range(1, 7):
                    if other != m:
                        self.assertEqual(self.fails(ParseError, read_test, other, text).at, 0)
        for text in ("\n", "011\n", "01100\n", "01 1\n", "0 1 1 0\n", "0112\n", "+--+\n", "\u06610\u0661\u0661\n", "0110 \n", "0110"):
            self.assertEqual(self.fails(ParseError, read_test, 2, text).at, 0, repr(text))
        self.refuses_others(read_test, (2,))
        numbers = (InvalidNumber, BAD_NUMBERS + (0, 7))
        tables = tuple(value for value in BAD_TABLES if value != (0, 1, 1, 0))
        self.refuses(text_of_test, [2, (0, 1, 1, 0)], [numbers, (InvalidWord, tables)])
        self.refuses(read_test, [2, "0110\n"], [numbers, (ParseError, BAD_TEXTS)])


class ManyLines(TextCase):

    def some_designs(self, source):
        for l in (1, 2, 5, 12):
            for _ in range(8):
                n = source.randint(1, min(6, l))
                yield l, tuple(tuple(source.sample(range(l), n)) for _ in range(source.randint(1, 6)))
        yield 12, (tuple(range(6)),) * 6

    def test_designs(self):
        source = random.Random(10)
        for l, design in self.some_designs(source):
            text = design_text(l, design)
            self.assertEqual(text, "".join(" ".join(map(str, places)) + "\n" for places in design))
            self.assertEqual(read_design(l, text), design)
            for near in bent(source, text, 12):
                self.checks(read_design, (l,), design_text, near, first_wrong_of_design(l, near))
            for other in (1, 4, 11):
                self.checks(read_design, (other,), design_text, text, first_wrong_of_design(other, text))

    def test_lines_of_designs(self):
        for text, at in (("", 0), ("\n", 0), ("0 1", 0), ("0 1\n1 2\n0", 2), ("0 1\n1 2\n0 3", 2), ("0 1\n1\n", 1), ("0 1\n1 2 3\n", 1), ("0 1\n\n1 2\n", 1), ("0 1\n1 2\n\n", 2),
                         ("0 0\n", 0), ("0 1\n2 2\n", 1), ("0 5\n", 0), ("0 -1\n", 0), ("0 -0\n", 0), ("0  1\n", 0), ("0 1 \n", 0), (" 0 1\n", 0), ("00 1\n", 0), ("0 1\r\n", 0),
                         ("0\n" * 7, 6), ("0\n" * 6 + "x\n", 6), ("0\n" * 6 + "\n", 6), ("0\n" * 6 + "0", 6), ("0\n5\n" + "0\n" * 5, 1), ("0 1 2 3 4 0\n", 0), ("x\n0\n", 0),
                         ("0\n0\n5", 2), ("0\n0 1\n5\n", 1)):
            self.assertEqual(self.fails(ParseError, read_design, 5, text).at, at, repr(text))
            self.assertEqual(first_wrong_of_design(5, text), at)
        self.assertEqual(self.fails(ParseError, read_design, 12, "0 1 2 3 4 5 6\n").at, 0)
        self.assertEqual(read_design(5, "0\n" * 6), ((0,),) * 6)
        self.assertEqual(read_design(12, "11 10 9 8 7 6\n"), ((11, 10, 9, 8, 7, 6),))
        self.refuses_others(read_design, (5,))
        numbers = (InvalidNumber, BAD_DESIGN_L)
        designs = tuple(value for value in BAD_DESIGNS) + (((0, 1), (1, 3)), ((0, 1), (0,)))
        self.refuses(design_text, [3, ((0, 1), (1, 2))], [numbers, (InvalidDesign, tuple(value for value in designs if value is not None))])
        self.refuses(read_design, [3, "0 1\n1 2\n"], [numbers, (ParseError, BAD_TEXTS)])

    def test_askers(self):
        source = random.Random(11)
        for n, t in ((1, 1), (1, 2), (1, 4), (2, 2), (3, 4)):
            for _ in range(8):
                asker = drawn_asker(source, n, t, 3 if n < 3 else 2)
                text = asker_text(n, t, asker)
                self.assertEqual(text, self.text_by_words(asker))
                self.assertEqual(read_asker(n, t, text), asker)
                for near in bent(source, text, 6):
                    self.checks(read_asker, (n, t), asker_text, near, first_wrong_of_asker(n, t, near))
                for others in ((2, t), (n, 1)):
                    self.checks(read_asker, others, asker_text, text, first_wrong_of_asker(*others, text))

    def text_by_words(self, asker):
        if isinstance(asker, int):
            return f"{asker}\n"
        return f"ask {asker[0]}\n" + "".join(map(self.text_by_words, asker[1]))

    def test_lines_of_askers(self):
        deep = "ask 0\n" * 3
        for text, at in (("", 0), ("\n", 0), ("0", 0), ("ask 0", 0), ("2\n", 0), ("-0\n", 0), ("00\n", 0), ("ask\n", 0), ("ask \n", 0), ("ask  0\n", 0), ("ask 0 \n", 0), ("ASK 0\n", 0),
                         ("ask 4\n0\n1\n", 0), ("ask -1\n0\n1\n", 0), ("ask 00\n0\n1\n", 0), ("ask 0 0\n0\n1\n", 0), ("ask 0\n", 1), ("ask 0\n0\n", 2), ("ask 0\n0\n1", 2), ("ask 0\n0\n1\n1\n", 3),
                         ("0\n0\n", 1), ("0\n\n", 1), ("1\nx", 1), ("ask 0\n\n1\n", 1), ("ask 0\nx\n", 1), ("ask 0\n0\nask 4\n", 2), (deep + "ask 0\n", 3), (deep + "0\n" * 5, 7),
                         (deep + "0\n" * 3, 6), (deep, 3), ("ask 3\n0\nask 1\n1\n", 4), (deep + "0\nask 1\n", 4), ("ask 0\n0\nask 0\n", 3), ("ask\t0\n", 0), ("ask 0\r\n0\n1\n", 0)):
            wanted = first_wrong_of_asker(1, 2, text)
            self.assertEqual(wanted, at, repr(text))
            self.checks(read_asker, (1, 2), asker_text, text, wanted)
        self.assertEqual(read_asker(1, 2, deep + "0\n" * 4), (0, ((0, ((0, (0, 0)), 0)), 0)))
        self.assertEqual(read_asker(1, 1, "0\n"), 0)
        self.assertEqual(read_asker(3, 4, "ask 15\n" + "1\n" * 8), (15, (1,) * 8))
        self.refuses_others(read_asker, (1, 2))
        bad = [(InvalidNumber, BAD_N), (InvalidNumber, BAD_T)]
        self.refuses(asker_text, [1, 2, question(3)], bad + [(InvalidOperation, BAD_ASKERS)])
        self.refuses(read_asker, [1, 2, "ask 3\n0\n1\n"], bad + [(ParseError, BAD_TEXTS)])


if __name__ == "__main__":
    unittest.main()
