"""Grids: rows of integers above one common number below.

Products of many tables are worked by grids, since each of their steps would reduce every fraction anew otherwise.
"""

from caskyears.fractions import common, reduced, reduced_by


def grid_of(rows):
    """Return the grid of rows of fractions."""
    width = len(rows[0])
    numbers, below = common([entry for row in rows for entry in row])
    return [numbers[at : at + width] for at in range(0, len(numbers), width)], below


def rows_of(grid):
    """Return the tuple of tuples of fractions that a grid stands for."""
    rows, below = grid
    return tuple([tuple([reduced(number, below) for number in row]) for row in rows])


def still_grid(casks):
    """Return the grid that leaves all as it is."""
    return [[1 if row == column else 0 for column in range(casks)] for row in range(casks)], 1


def product_of(one, other):
    """Return the grid of doing the other one and then the one."""
    columns = [[row[at] for row in other[0]] for at in range(len(other[0][0]))]
    rows = [[sum([x * y for x, y in zip(row, column)]) for column in columns] for row in one[0]]
    return rows, one[1] * other[1]


def power_of(grid, rounds):
    """Return the grid of so many times."""
    result, square, left = still_grid(len(grid[0])), grid, rounds
    while left > 0:
        if left % 2 == 1:
            result = product_of(square, result)
        left = left // 2
        if left > 0:
            square = product_of(square, square)
    return result


def powered(grid, rounds):
    """Return the tuple of tuples of fractions that so many times a grid stand for."""
    rows, below = power_of(grid, rounds)
    return tuple([tuple([reduced_by(number, below, grid[1]) for number in row]) for row in rows])
