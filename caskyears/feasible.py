"""Lists of fractions from 0 on that rows of numbers bring to a right side, or what shows that there are none."""

from caskyears.elimination import pivoted
from caskyears.fractions import ZERO, common, lowest, reduced


def point_or_refusal(numbers, right):
    """Return ("point", list), or ("refusal", list) if no list of fractions from 0 on gives the right side.

    The right side has no fraction below 0.
    The columns of the numbers in which the point is above 0 are free of one another. The refusal has a fraction for
    each row, such that the rows times these add up to 0 or more in each column, the right side to less than 0.
    """
    width = len(numbers[0])
    rows, factors = started(numbers, right)
    rows, basis, below, _ = improved(rows, first_basis(width, len(numbers)), 1, width)
    costs = rows[-1]
    if costs[-1] < 0:
        # What the columns of the helpers cost at the end tells the price of each row.
        return "refusal", lowest([(cost - below) * factor for cost, factor in zip(costs[width:-1], factors)])
    point = [ZERO] * width
    for row, column in zip(rows[:-1], basis):
        if column < width:
            point[column] = reduced(row[-1], below)
    return "point", point


def started(numbers, right):
    """Return rows of integers, a helper for each one ahead of its right side, and the factors they come by.

    The last row has what it costs to bring in a column, so that the sum of the helpers becomes least.
    """
    rows, factors = [], []
    for at, numbers_there in enumerate(numbers):
        whole, factor = common(list(numbers_there) + [right[at]])
        rows.append(whole[:-1] + helper(at, len(numbers)) + whole[-1:])
        factors.append(factor)
    rows.append(helper_costs(rows, len(numbers[0]), len(numbers)))
    return rows, factors


def first_basis(width, many):
    """Return the columns that so many rows begin with: those of their helpers."""
    return list(range(width, width + many))


def helper(at, many):
    """Return the list of so many numbers with 1 at a place and 0 elsewhere."""
    return [1 if place == at else 0 for place in range(many)]


def helper_costs(rows, width, many):
    """Return the row that tells what each column costs if each of so many helpers, in the rows by now, costs 1."""
    costs = [-sum([row[column] for row in rows]) for column in range(width + many + 1)]
    return costs[:width] + [0] * many + costs[-1:]


def improved(rows, basis, below, width):
    """Return the rows at the least costs, which stand in the last one, the column of each row, and the number below.

    Behind these stands None, or the column that may come in for ever, so that there are no least costs. The first
    column that helps comes in, and of the rows that bound it most that of the least column leaves: so no basis comes
    twice. A helper that has left does not come in again.
    """
    basis = list(basis)
    coming = [column for column in range(width) if rows[-1][column] < 0]
    while coming:
        at = leaving(rows, basis, coming[0])
        if at is None:
            return rows, basis, below, coming[0]
        lead = rows[at][coming[0]]
        rows = pivoted(rows, at, coming[0], below)
        below, basis[at] = lead, coming[0]
        coming = [column for column in range(width) if rows[-1][column] < 0]
    return rows, basis, below, None


def leaving(rows, basis, column):
    """Return the index of the row that bounds a column most, None if none does."""
    best = None
    for at in range(len(basis)):
        lead, bound = rows[at][column], rows[at][-1]
        if lead > 0:
            gap = -1 if best is None else bound * rows[best][column] - rows[best][-1] * lead
            if gap < 0 or (gap == 0 and basis[at] < basis[best]):
                best = at
    return best
