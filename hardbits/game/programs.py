"""Linear programs over integers, solved exactly."""


def _turned_row(row, pivot_row, column, pivot, scale):
    """The row less so much of the pivot's row that its variable is gone from the column."""
    factor = row[column]
    if factor == 0:
        return [entry * pivot // scale for entry in row]
    turned = [(entry * pivot - factor * other) // scale for entry, other in zip(row, pivot_row)]
    turned[column] = -factor
    return turned


class Program:
    """The greatest sum of goals times x, for x from 0 on of which each row, times x, is at most its bound.

    The bounds are from 0 on, so that x = 0 is a start, and the program has an end. The variables are x, from
    number 0 on, and behind them for each row what it lacks to its bound. The table has a row for each variable
    that is not kept at 0, and a column for each one that is; its last row is that of the goals, its last column
    that of the bounds. Its integers are over the scale: as they are determinants of parts of the first table,
    each division by a scale is exact.
    """

    def __init__(self, rows, bounds, goals):
        self.table = [list(row) + [bound] for row, bound in zip(rows, bounds)]
        self.table.append([-goal for goal in goals] + [0])
        self.scale = 1
        self.width = len(goals)
        self.columns = list(range(len(goals)))
        self.basis = list(range(len(goals), len(goals) + len(rows)))

    def gaining(self):
        """The columns of variables that make the goal greater."""
        goals = self.table[-1]
        return [column for column in range(self.width) if goals[column] < 0]

    def steepest(self, gaining):
        """The one of the columns that makes the goal greater by most."""
        goals = self.table[-1]
        return min([(goals[column], column) for column in gaining])[1]

    def first(self, gaining):
        """The one of the columns with the least variable."""
        return min([(self.columns[column], column) for column in gaining])[1]

    def leaving(self, column):
        """The row that bounds the column most; among several the one with the least variable."""
        best = None
        for index in range(len(self.basis)):
            if self.table[index][column] > 0 and (best is None or self.bounds_more(index, best, column)):
                best = index
        return best

    def bounds_more(self, one, other, column):
        """Whether one row bounds the column more than the other, or as much with a lesser variable."""
        row, rival = self.table[one], self.table[other]
        gap = row[-1] * rival[column] - rival[-1] * row[column]
        return gap < 0 or (gap == 0 and self.basis[one] < self.basis[other])

    def turn(self, at, column):
        """Lets the column's variable stand for the row's."""
        pivot_row = self.table[at]
        pivot = pivot_row[column]
        turned = [_turned_row(row, pivot_row, column, pivot, self.scale) for row in self.table]
        turned[at] = list(pivot_row)
        turned[at][column] = self.scale
        self.table = turned
        self.scale = pivot
        self.basis[at], self.columns[column] = self.columns[column], self.basis[at]

    def solve(self):
        """Turns the table until nothing makes the goal greater."""
        idle = 0
        gaining = self.gaining()
        while gaining:
            # Turns without a gain can lead round and round, but not with the first columns.
            column = self.first(gaining) if idle > self.width else self.steepest(gaining)
            at = self.leaving(column)
            idle = idle + 1 if self.table[at][-1] == 0 else 0
            self.turn(at, column)
            gaining = self.gaining()

    def weights(self):
        """The numbers x, over the scale."""
        found = [0] * self.width
        for index, variable in enumerate(self.basis):
            if variable < self.width:
                found[variable] = self.table[index][-1]
        return found

    def prices(self):
        """What each row's bound is worth, over the scale: with weights from 0 on of the rows that bar more."""
        found = [0] * len(self.basis)
        for column, variable in enumerate(self.columns):
            if variable >= self.width:
                found[variable - self.width] = self.table[-1][column]
        return found

    def best(self):
        """The sum of goals times x, over the scale."""
        return self.table[-1][-1]

    def used_columns(self):
        """The ascending tuple of the numbers x that are not kept at 0."""
        return tuple(sorted([variable for variable in self.basis if variable < self.width]))

    def tight_rows(self):
        """The ascending tuple of the rows that are kept at their bounds."""
        return tuple(sorted([variable - self.width for variable in self.columns if variable >= self.width]))
