"""Amounts from 0 on that cost least, of all those that bring columns of numbers to a right side."""

from caskyears.elimination import pivoted
from caskyears.feasible import first_basis, helper, helper_costs, improved
from caskyears.fractions import ZERO, common, lowest, reduced


def least_cost(columns, costs, right):
    """Return what amounts from 0 on of the columns add up to the right side at the least costs, and what shows it.

    This is ("least", amounts, prices): prices of the entries by which no column is worth more than it costs and the
    right side just as much as the amounts cost; or ("endless", way), amounts that add up to 0 and cost less than 0;
    or ("none", prices), if there are no amounts, by which each column is worth 0 or more and the right side less.
    """
    width, many = len(columns), len(right)
    rows, factors, scale = started(columns, costs, right)
    signs = [-1 if entry[0] < 0 else 1 for entry in right]
    rows, basis, below, _ = improved(rows, first_basis(width, many), 1, width)
    if rows[-1][-1] < 0:
        found = rows[-1][width:-1]
        return "none", lowest([(cost - below) * sign for cost, sign in zip(found, signs)]), None
    rows, basis, below = without_helpers(rows[:-1], basis, below, width)
    rows, basis, below, coming = improved(rows, basis, below, width)
    amounts = [ZERO] * width
    if coming is not None:
        amounts[coming] = (factors[coming], 1)
        for row, column in zip(rows, basis):
            if column < width:
                amounts[column] = reduced(-row[coming] * factors[column], below)
        return "endless", amounts, None
    for row, column in zip(rows, basis):
        if column < width:
            amounts[column] = reduced(row[-1] * factors[column], below * scale)
    prices = [reduced(-cost * sign, below) for cost, sign in zip(rows[-1][width:-1], signs)]
    return "least", amounts, prices


def started(columns, costs, right):
    """Return rows of integers, one for each entry, the costs, and the costs of helpers; and by what they come.

    These are a factor for each column, by which it is taken, and one for the right side. A row whose right side is
    below 0 is taken with the other sign.
    """
    taken = [common(list(column) + [cost]) for column, cost in zip(columns, costs)]
    goal, scale = common(right)
    many, rows = len(right), []
    for at, number in enumerate(goal):
        row = [whole[at] for whole, _ in taken] + [number]
        row = [-entry for entry in row] if number < 0 else row
        rows.append(row[:-1] + helper(at, many) + row[-1:])
    price_row = [whole[-1] for whole, _ in taken] + [0] * (many + 1)
    return rows + [price_row, helper_costs(rows, len(taken), many)], [factor for _, factor in taken], scale


def without_helpers(rows, basis, below, width):
    """Return the rows, the column of each and the number below, with columns in the place of helpers that are 0.

    A helper stays where all columns are 0: its row tells nothing that the other ones do not.
    """
    basis = list(basis)
    for at in range(len(basis)):
        fit = [column for column in range(width) if rows[at][column] != 0]
        if basis[at] >= width and fit:
            if rows[at][fit[0]] < 0:
                # With the other sign the row tells the same, as its right side is 0; so the number below stays above 0.
                rows = rows[:at] + [[-entry for entry in rows[at]]] + rows[at + 1 :]
            lead = rows[at][fit[0]]
            rows = pivoted(rows, at, fit[0], below)
            below, basis[at] = lead, fit[0]
    return rows, basis, below
