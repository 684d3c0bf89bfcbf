"""Boards of whole numbers, on which a sum of amounts is made as great as it can be.

Amounts are from nought on, and have names that can be put in order. A board tells each amount of its base, and in its
last row the sum: the last number of the row, less each other number times the free amount of its column, all over one
scale. So where all free amounts are nought, base amounts are the last column, and the sum is the corner.
"""


class Board:
    """A board whose last column is nowhere below nought, but in the sum's row; all over the scale 1 at first."""

    def __init__(self, grid, base, free):
        self.grid = [list(row) for row in grid]
        self.base = list(base)
        self.free = list(free)
        self.scale = 1

    def climb(self):
        """Turn the board until the sum is the greatest; there must be a greatest one."""
        column = self.rising()
        while column is not None:
            self.turn(self.stopping(column), column)
            column = self.rising()

    def amount(self, name):
        """An amount, as a whole number over the scale."""
        return self.grid[self.base.index(name)][-1] if name in self.base else 0

    def worth(self, name):
        """By how much the sum would sink for each 1 of an amount, as a whole number over the scale."""
        return self.grid[-1][self.free.index(name)] if name in self.free else 0

    def rising(self):
        """The column of a free amount by which the sum rises, or None."""
        goal = self.grid[-1]
        # Of several always the least name, here and in stopping: else turns could come round to the same board again.
        found = [(name, column) for column, name in enumerate(self.free) if goal[column] < 0]
        return None if found == [] else min(found)[1]

    def stopping(self, column):
        """The row of the base amount that is the first to come to nought as the column's amount grows."""
        found = None
        for row in range(len(self.base)):
            if self.grid[row][column] > 0 and (found is None or self.is_sooner(row, found, column)):
                found = row
        return found

    def is_sooner(self, row, other, column):
        """Whether the row's base amount comes to nought ahead of the other's."""
        one = self.grid[row][-1] * self.grid[other][column]
        two = self.grid[other][-1] * self.grid[row][column]
        return one < two or (one == two and self.base[row] < self.base[other])

    def turn(self, row, column):
        """Let a base amount and a free one change places; the number where they cross is above nought."""
        crossing = self.grid[row]
        pivot = crossing[column]
        turned = [turned_row(other, crossing, column, self.scale) for other in self.grid]
        turned[row] = list(crossing)
        turned[row][column] = self.scale
        self.grid = turned
        self.base[row], self.free[column] = self.free[column], self.base[row]
        self.scale = pivot


def turned_row(row, crossing, column, scale):
    """A row behind a turn, over the number where crossing row and column meet."""
    pivot, part = crossing[column], row[column]
    # Each number is a determinant of the first board, so nothing is left over here.
    turned = [(one * pivot - part * other) // scale for one, other in zip(row, crossing)]
    turned[column] = -part
    return turned
