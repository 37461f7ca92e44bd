"""Pays of mixes in games, worked out for games that are known to be right."""

from hardbits.base.exact import dot, lowest_row, ordered, reduced
from hardbits.base.kinds import is_integer, is_mix, is_tuple_of

_MOST_ROWS = 24
_MOST_COLUMNS = 32


def _is_game_row(row, length):
    return is_tuple_of(row, length) and all(is_integer(number) for number in row)


def is_game(value):
    """Whether the value is a game, of integers of any length."""
    if not is_tuple_of(value, 2):
        return False
    bottom, rows = value
    if not is_integer(bottom) or bottom < 1 or not isinstance(rows, tuple) or not 1 <= len(rows) <= _MOST_ROWS:
        return False
    if not isinstance(rows[0], tuple) or not 1 <= len(rows[0]) <= _MOST_COLUMNS:
        return False
    return all(_is_game_row(row, len(rows[0])) for row in rows)


def _pays(bottom, lines, mix):
    """The row of the pays of a mix at lines of numbers, one number in each for each thing of the mix."""
    return lowest_row(bottom * mix[0], [dot(mix[1], line) for line in lines])


def row_pays(table, x):
    """The row of the pays of a mix of rows at all columns."""
    rows = table[1]
    return _pays(table[0], list(zip(*rows)), x)


def column_pays(table, y):
    """The row of the pays of a mix of columns at all rows."""
    return _pays(table[0], table[1], y)


def least_pay(table, x):
    """The least pay of a mix of rows at a column."""
    bottom, pays = row_pays(table, x)
    return reduced(min(pays), bottom)


def greatest_pay(table, y):
    """The greatest pay of a mix of columns at a row."""
    bottom, pays = column_pays(table, y)
    return reduced(max(pays), bottom)


def holds(table, v, value):
    """Whether the value is a mix of rows with a pay of at least v at each column."""
    return is_mix(value, len(table[1])) and ordered(least_pay(table, value), v) >= 0


def beats(table, v, value):
    """Whether the value is a mix of columns with a pay below v at each row."""
    return is_mix(value, len(table[1][0])) and ordered(greatest_pay(table, value), v) < 0
