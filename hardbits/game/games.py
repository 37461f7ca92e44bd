"""Stage 3: games of rows and columns."""

from hardbits.base.checks import need_fraction, need_mix
from hardbits.base.exact import lowest_row, ordered, reduced
from hardbits.base.kinds import is_answer, is_lot, is_lowest_pair, is_mix, is_short, is_tuple_of
from hardbits.base.pays import beats, column_pays, greatest_pay, holds, is_game, least_pay, row_pays
from hardbits.errors import InvalidOperation
from hardbits.game.programs import Program

MOST_ROWS = 24
MOST_COLUMNS = 32


def _need_game(table):
    if not is_game(table) or not is_short(table[0]):
        raise InvalidOperation("not a game")
    if not all(is_short(number) for row in table[1] for number in row):
        raise InvalidOperation("not a game of integers of nine digits at most")


def row_pay(table, x):
    """The row of the pays of a mix of rows at all columns."""
    _need_game(table)
    need_mix(x, len(table[1]))
    return row_pays(table, x)


def column_pay(table, y):
    """The row of the pays of a mix of columns at all rows."""
    _need_game(table)
    need_mix(y, len(table[1][0]))
    return column_pays(table, y)


def _mix_of(numbers):
    return lowest_row(sum(numbers), numbers)


def _played(table):
    """The worth of the game, best mixes x and y, and the rows and columns of a small answer."""
    bottom, rows = table
    # With numbers from 1 on the worth is above 0, and weights divided by it have all pays at most 1.
    raised = 1 - min([min(row) for row in rows])
    lines = [[number + raised for number in row] for row in rows]
    program = Program(lines, [1] * len(rows), [1] * len(rows[0]))
    program.solve()
    top = program.scale - raised * program.best()
    v = reduced(top, program.best() * bottom)
    x, y = _mix_of(program.prices()), _mix_of(program.weights())
    return (v, x, y, program.tight_rows(), program.used_columns())


def worth(table):
    """The worth of the game."""
    _need_game(table)
    return _played(table)[0]


def worth_answer(table):
    """The worth with best mixes of rows and columns."""
    _need_game(table)
    v, x, y = _played(table)[:3]
    return ("worth", v, x, y)


def _are_best(table, v, x, y):
    """Whether x pays at least v at each column, and y at most v at each row: so v is the worth."""
    if not is_mix(x, len(table[1])) or not is_mix(y, len(table[1][0])):
        return False
    return ordered(least_pay(table, x), v) >= 0 and ordered(greatest_pay(table, y), v) <= 0


def is_worth_answer(table, value):
    """Whether the value is the worth with best mixes."""
    _need_game(table)
    if not is_answer(value, "worth", 4) or not is_lowest_pair(value[1]):
        return False
    return _are_best(table, value[1], value[2], value[3])


def _need_game_and_bound(table, v):
    _need_game(table)
    need_fraction(v)


def rows_or_columns(table, v):
    """A mix of rows with pays of at least v, or a mix of columns with pays below v, for what is known to be right."""
    most, x, y = _played(table)[:3]
    if ordered(most, v) >= 0:
        return ("rows", x)
    return ("columns", y)


def bound_answer(table, v):
    """A mix of rows with pays of at least v, or a mix of columns with pays below v."""
    _need_game_and_bound(table, v)
    return rows_or_columns(table, v)


def is_bound_answer(table, v, value):
    """Whether the value is such a mix of rows, or of columns."""
    _need_game_and_bound(table, v)
    if is_answer(value, "rows", 2):
        return holds(table, v, value[1])
    if is_answer(value, "columns", 2):
        return beats(table, v, value[1])
    return False


def small_answer(table):
    """Equally many rows and columns, and best mixes of these alone that pay the worth at all of them."""
    _need_game(table)
    x, y, rows, columns = _played(table)[1:]
    return (rows, columns, x, y)


def _is_nought_outside(mix, lot):
    return all(number == 0 for index, number in enumerate(mix[1]) if index not in lot)


def _pays_just(row, lot, v):
    return all(row[1][index] * v[1] == v[0] * row[0] for index in lot)


def is_small_answer(table, value):
    """Whether the value is such rows, columns and mixes."""
    _need_game(table)
    if not is_tuple_of(value, 4):
        return False
    rows, columns, x, y = value
    if not is_lot(rows, len(table[1])) or not is_lot(columns, len(table[1][0])):
        return False
    if not rows or len(rows) != len(columns):
        return False
    if not is_mix(x, len(table[1])):
        return False
    v = least_pay(table, x)
    if not _are_best(table, v, x, y) or not _is_nought_outside(x, rows) or not _is_nought_outside(y, columns):
        return False
    return _pays_just(row_pays(table, x), columns, v) and _pays_just(column_pays(table, y), rows, v)
