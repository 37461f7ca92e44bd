"""Stage 22: texts of values, and the values that are read in them."""

from hardbits.base.checks import need_design, need_fraction, need_number, need_table, need_truth
from hardbits.base.kinds import is_bit, is_design_below, is_row_within, is_short
from hardbits.errors import InvalidRow, ParseError
from hardbits.longer.trees import MOST_QUESTIONS, need_asker, need_asker_sizes
from hardbits.points.truths import MOST_POINTS
from hardbits.use.spelling import read_below, read_bits, read_integer, read_lowest, spelled_bits, spelled_fraction
from hardbits.words.designs import MOST_PLACES, MOST_TUPLES

_MOST_ENTRIES = 64


def _first_pieces(text):
    """The text parted at its line ends, what has no end last; raises unless there is a first line."""
    if not isinstance(text, str):
        raise ParseError(None)
    pieces = text.split("\n")
    if len(pieces) == 1:
        raise ParseError(0)
    return pieces


def _need_end(pieces, count):
    """Raises unless the text ends behind so many lines."""
    if len(pieces) > count + 1 or pieces[count] != "":
        raise ParseError(count)


def _alone(value, pieces):
    """The value that is read in the first line; raises if this is None, or something stands behind the line."""
    if value is None:
        raise ParseError(0)
    _need_end(pieces, 1)
    return value


def fraction_text(number):
    """The text of a fraction."""
    need_fraction(number)
    return spelled_fraction(number) + "\n"


def read_fraction(text):
    """The fraction of a text."""
    pieces = _first_pieces(text)
    return _alone(read_lowest(pieces[0]), pieces)


def row_text(row):
    """The text of a row of 1 to 64 integers, in the terms of the row."""
    if not is_row_within(row, 1, _MOST_ENTRIES) or not is_short(row[0]) or not all(is_short(at) for at in row[1]):
        raise InvalidRow("not a row of 1 to 64 integers of at most nine digits")
    return " ".join([f"{row[0]}:"] + [str(number) for number in row[1]]) + "\n"


def _row_in(line):
    """The row of which the line is the text, or None."""
    words = line.split(" ")
    if not words[0].endswith(":"):
        return None
    row = (read_integer(words[0].removesuffix(":")), tuple([read_integer(word) for word in words[1:]]))
    return row if is_row_within(row, 1, _MOST_ENTRIES) else None


def read_row(text):
    """The row of a text, in the terms of the text."""
    pieces = _first_pieces(text)
    return _alone(_row_in(pieces[0]), pieces)


def truth_text(f):
    """The text of a truth."""
    need_truth(f, MOST_POINTS)
    return "".join(["+" if sign == 1 else "-" for sign in f]) + "\n"


def _truth_in(line):
    """The truth of which the line is the text, or None."""
    if not 1 <= len(line) <= MOST_POINTS or not all(sign in "+-" for sign in line):
        return None
    return tuple([1 if sign == "+" else -1 for sign in line])


def read_truth(text):
    """The truth of a text."""
    pieces = _first_pieces(text)
    return _alone(_truth_in(pieces[0]), pieces)


def design_text(l, design):
    """The text of a design: a line for each tuple."""
    need_number(l, 1, MOST_PLACES)
    need_design(design, l)
    return "".join([" ".join([str(place) for place in places]) + "\n" for places in design])


def read_design(l, text):
    """The design of a text."""
    need_number(l, 1, MOST_PLACES)
    pieces = _first_pieces(text)
    design = ()
    for at in range(len(pieces) - 1):
        design = design + (tuple([read_below(word, l) for word in pieces[at].split(" ")]),)
        # A tuple is wrong beside those ahead of it, or a seventh one, if all together are no design.
        if not is_design_below(design, l):
            raise ParseError(at)
    _need_end(pieces, len(design))
    return design


def test_text(m, test):
    """The text of a test of words: its bits."""
    need_number(m, 1, MOST_TUPLES)
    need_table(test, m)
    return spelled_bits(test) + "\n"


def read_test(m, text):
    """The test of words of m bits of a text."""
    need_number(m, 1, MOST_TUPLES)
    pieces = _first_pieces(text)
    return _alone(read_bits(pieces[0], 1 << m), pieces)


def _asker_lines(asker):
    """The lines of an asker, the upper part ahead of the lower ones."""
    if is_bit(asker):
        return [str(asker)]
    x, branches = asker
    lines = [f"ask {x}"]
    for branch in branches:
        lines.extend(_asker_lines(branch))
    return lines


def asker_text(n, t, asker):
    """The text of an asker."""
    need_asker(n, t, asker)
    return "".join([line + "\n" for line in _asker_lines(asker)])


def _asked_in(line, t):
    """The x of which the line asks, or None."""
    word, _, told = line.partition(" ")
    return read_below(told, 1 << t) if word == "ask" else None


def _asker_at(n, t, pieces, at, left):
    """The asker whose text begins with this line, with so many questions left, and the index of the line behind."""
    if at == len(pieces) - 1:
        raise ParseError(at)
    end = read_bits(pieces[at], 1)
    if end is not None:
        return (end[0], at + 1)
    x = _asked_in(pieces[at], t)
    if x is None or left == 0:
        raise ParseError(at)
    branches, at = (), at + 1
    for _ in range(1 << n):
        branch, at = _asker_at(n, t, pieces, at, left - 1)
        branches = branches + (branch,)
    return ((x, branches), at)


def read_asker(n, t, text):
    """The asker of a text."""
    need_asker_sizes(n, t)
    pieces = _first_pieces(text)
    asker, count = _asker_at(n, t, pieces, 0, MOST_QUESTIONS)
    _need_end(pieces, count)
    return asker
