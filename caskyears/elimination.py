"""Elimination in rows of integers, without fractions on the way."""

from caskyears.fractions import ONE, ZERO, common, lowest, reduced


def pivoted(rows, at, column, below):
    """Return the rows over a new number below, with 0 in a column in all rows but one.

    The rows stand above the number below. The new one is the number in the column of the row at the index. The
    divisions leave nothing, as all numbers are determinants of the rows that it began with.
    """
    head = rows[at]
    lead = head[column]
    return [
        row if place == at else [(x * lead - row[column] * y) // below for x, y in zip(row, head)]
        for place, row in enumerate(rows)
    ]


def eliminated(rows, width):
    """Return the rows with a pivot in each of as many first rows as there can be, the columns and the number below.

    Only the first columns, so many as the width, are cleared; in the others the rows go along.
    """
    below, columns = 1, []
    for column in range(width):
        top = len(columns)
        fit = [at for at in range(top, len(rows)) if rows[at][column] != 0]
        if fit:
            rows = rows[:top] + [rows[fit[0]]] + rows[top : fit[0]] + rows[fit[0] + 1 :]
            lead = rows[top][column]
            rows = pivoted(rows, top, column, below)
            below = lead
            columns.append(column)
    return rows, columns, below


def rank_of(rows):
    """Return the rank of rows of fractions."""
    return len(eliminated([common(row)[0] for row in rows], len(rows[0]))[1])


def solved(numbers, right):
    """Return what solutions of the document does, for numbers and a right side that are checked."""
    width = len(numbers[0])
    rows, columns, below = eliminated(started(numbers, right), width)
    for row in rows[len(columns) :]:
        if row[width] != 0:
            return "none", lowest(row[width + 1 :])
    found = [ZERO] * width
    for row, column in zip(rows, columns):
        found[column] = reduced(row[width], below)
    if len(columns) == width:
        return "one", found
    free = [column for column in range(width) if column not in columns]
    return "many", found, [way_of(rows, columns, below, column, width) for column in free]


def started(numbers, right):
    """Return rows of integers: the numbers, the right side, and from which rows each comes by which factors."""
    rows = []
    for at, row in enumerate(numbers):
        whole, factor = common(list(row) + [right[at]])
        rows.append(whole + [factor if at == other else 0 for other in range(len(numbers))])
    return rows


def way_of(rows, columns, below, free, width):
    """Return the list that gives 0 in all rows, with 1 in one free column and 0 in the other ones."""
    way = [ZERO] * width
    way[free] = ONE
    for row, column in zip(rows, columns):
        way[column] = reduced(-row[free], below)
    return way
