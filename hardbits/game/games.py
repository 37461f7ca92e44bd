"""Stage 3: games of rows and columns."""

from hardbits.base.checks import need_fraction, need_mix
from hardbits.base.exact import dot, lowest_row, ordered, reduced
from hardbits.base.kinds import is_answer, is_lot, is_lowest_pair, is_mix, is_short, is_tuple_of
from hardbits.errors import InvalidOperation
from hardbits.game.programs import Program

MOST_ROWS = 24
MOST_COLUMNS = 32


def _is_game_row(row, length):
    return is_tuple_of(row, length) and all(is_short(number) for number in row)


def _is_game(table):
    """Whether the value is a game."""
    if not is_tuple_of(table, 2):
        return False
    bottom, rows = table
    if not is_short(bottom) or bottom < 1 or not isinstance(rows, tuple) or not 1 <= len(rows) <= MOST_ROWS:
        return False
    if not isinstance(rows[0], tuple) or not 1 <= len(rows[0]) <= MOST_COLUMNS:
        return False
    return all(_is_game_row(row, len(rows[0])) for row in rows)


def _need_game(table):
    if not _is_game(table):
        raise InvalidOperation("not a game")


def _columns(table):
    rows = table[1]
    return list(zip(*rows))


def _pays(bottom, lines, mix):
    """The row of the pays of a mix at lines of numbers, one number in each for each thing of the mix."""
    return lowest_row(bottom * mix[0], [dot(mix[1], line) for line in lines])


def _row_pays(table, x):
    return _pays(table[0], _columns(table), x)


def _column_pays(table, y):
    return _pays(table[0], table[1], y)


def row_pay(table, x):
    """The row of the pays of a mix of rows at all columns."""
    _need_game(table)
    need_mix(x, len(table[1]))
    return _row_pays(table, x)


def column_pay(table, y):
    """The row of the pays of a mix of columns at all rows."""
    _need_game(table)
    need_mix(y, len(table[1][0]))
    return _column_pays(table, y)


def _mix_of(numbers):
    return lowest_row(sum(numbers), numbers)


def _played(table):
    """The worth of the game, best mixes x and y, and the rows and columns of a small answer."""
    bottom, rows = table
    # With numbers from 1 on the worth is above 0, and weights divided by it have all pays at most 1.
    raised = 1 - min([min(row) for row in rows])
    lines = [[number + raised for number in row] for row in rows]
    program = Program(lines, [1] * len(rows), [1] * len(rows[0]))
    program.solve()
    top = program.scale - raised * program.best()
    v = reduced(top, program.best() * bottom)
    x, y = _mix_of(program.prices()), _mix_of(program.weights())
    return (v, x, y, program.tight_rows(), program.used_columns())


def worth(table):
    """The worth of the game."""
    _need_game(table)
    return _played(table)[0]


def worth_answer(table):
    """The worth with best mixes of rows and columns."""
    _need_game(table)
    v, x, y = _played(table)[:3]
    return ("worth", v, x, y)


def _lowest_pay(row):
    return reduced(min(row[1]), row[0])


def _highest_pay(row):
    return reduced(max(row[1]), row[0])


def _are_best(table, v, x, y):
    """Whether x pays at least v at each column, and y at most v at each row: so v is the worth."""
    if not is_mix(x, len(table[1])) or not is_mix(y, len(table[1][0])):
        return False
    return ordered(_lowest_pay(_row_pays(table, x)), v) >= 0 and ordered(_highest_pay(_column_pays(table, y)), v) <= 0


def is_worth_answer(table, value):
    """Whether the value is the worth with best mixes."""
    _need_game(table)
    if not is_answer(value, "worth", 4) or not is_lowest_pair(value[1]):
        return False
    return _are_best(table, value[1], value[2], value[3])


def _need_game_and_bound(table, v):
    _need_game(table)
    need_fraction(v)


def bound_answer(table, v):
    """A mix of rows with pays of at least v, or a mix of columns with pays below v."""
    _need_game_and_bound(table, v)
    most, x, y = _played(table)[:3]
    if ordered(most, v) >= 0:
        return ("rows", x)
    return ("columns", y)


def is_bound_answer(table, v, value):
    """Whether the value is such a mix of rows, or of columns."""
    _need_game_and_bound(table, v)
    if is_answer(value, "rows", 2) and is_mix(value[1], len(table[1])):
        return ordered(_lowest_pay(_row_pays(table, value[1])), v) >= 0
    if is_answer(value, "columns", 2) and is_mix(value[1], len(table[1][0])):
        return ordered(_highest_pay(_column_pays(table, value[1])), v) < 0
    return False


def small_answer(table):
    """Equally many rows and columns, and best mixes of these alone that pay the worth at all of them."""
    _need_game(table)
    x, y, rows, columns = _played(table)[1:]
    return (rows, columns, x, y)


def _is_nought_outside(mix, lot):
    return all(number == 0 for index, number in enumerate(mix[1]) if index not in lot)


def _pays_just(row, lot, v):
    return all(row[1][index] * v[1] == v[0] * row[0] for index in lot)


def is_small_answer(table, value):
    """Whether the value is such rows, columns and mixes."""
    _need_game(table)
    if not is_tuple_of(value, 4):
        return False
    rows, columns, x, y = value
    if not is_lot(rows, len(table[1])) or not is_lot(columns, len(table[1][0])):
        return False
    if not rows or len(rows) != len(columns):
        return False
    if not is_mix(x, len(table[1])):
        return False
    v = _lowest_pay(_row_pays(table, x))
    if not _are_best(table, v, x, y) or not _is_nought_outside(x, rows) or not _is_nought_outside(y, columns):
        return False
    return _pays_just(_row_pays(table, x), columns, v) and _pays_just(_column_pays(table, y), rows, v)
