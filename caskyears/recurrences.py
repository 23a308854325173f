"""Lists of fractions that go on by sums of multiples of those ahead."""

from caskyears.fractions import common, reduced, reduced_by


def recurrence_of(amounts):
    """Return the shortest list of factors of those one before, two before and so on, None if it is not the only one.

    The amounts stand in rows, each one later than the row ahead. If so many as there are factors tell the next one,
    the columns behind so many first ones are sums of these, and the next column tells the factors.
    """
    rows = len(amounts) // 2
    width = len(amounts) + 1 - rows
    steps = stepped([common(amounts[row : row + width])[0] for row in range(rows)])
    factors = last_column_by_others(steps)
    return factors[::-1] if goes_on(amounts, factors) else None


def stepped(rows):
    """Return the rows of integers in steps, each with one zero more at its beginning, as far as there are steps.

    The divisions leave nothing, as all numbers are determinants of the rows that it began with.
    """
    left, below, found = rows, 1, []
    while True:
        column = len(found)
        fit = [at for at, row in enumerate(left) if row[column] != 0]
        if not fit:
            return found
        head = left[fit[0]]
        lead = head[column]
        others = left[: fit[0]] + left[fit[0] + 1 :]
        left = [[(x * lead - row[column] * y) // below for x, y in zip(row, head)] for row in others]
        below = lead
        found.append(head)


def last_column_by_others(steps):
    """Return the list of the factors by which the columns as many as the steps add up to the column behind them."""
    many = len(steps)
    below = steps[-1][many - 1] if steps else 1
    found = []
    for at in reversed(range(many)):
        row = steps[at]
        known = sum([number * part for number, part in zip(row[at + 1 : many], found)])
        found = [(row[many] * below - known) // row[at]] + found
    return [reduced(part, below) for part in found]


def goes_on(amounts, factors):
    """Return whether the factors of as many amounts give the one behind them, wherever they stand."""
    numbers, _ = common(amounts)
    parts, below = common(factors)
    many = len(factors)
    for at in range(len(amounts) - many):
        if sum([number * part for number, part in zip(numbers[at:], parts)]) != numbers[at + many] * below:
            return False
    return True


def going_on(amounts, factors, many):
    """Return the list of so many further amounts by the factors of those one before, two before and so on."""
    parts, its_own = common(factors)
    numbers, below = common(amounts[len(amounts) - len(factors) :])
    base, found = below * its_own, []
    for _ in range(many):
        coming = sum([number * part for number, part in zip(numbers[::-1], parts)])
        below = below * its_own
        numbers = [number * its_own for number in numbers[1:]] + [coming] if factors else []
        found.append(reduced_by(coming, below, base))
    return found
