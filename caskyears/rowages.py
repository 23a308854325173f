"""How old the wine is that the tap of a row gives."""

from caskyears.fractions import ONE, ZERO, check_share, divided, lessened, multiplied, order, total
from caskyears.rows import check_age, check_row, check_year, first_age, left_at, limits

HALF = (1, 2)


def mean_age(row):
    """Return the mean age of the full tap: wine waits in each stage as long as it takes to fill it."""
    return total(limits(row))


def spread(row):
    """Return the mean of the squares of the ages of the full tap less the square of the mean."""
    # The years in each stage hang on nothing else, so their spreads add up.
    return total([multiplied(lessened(ONE, divided(ONE, years)), multiplied(years, years)) for years in limits(row)])


def older(row, age):
    """Return the share of the full tap that has an age or more."""
    check_row(row)
    check_age(age)
    return still_in(row, age)


def middle_age(row):
    """Return the least age such that at least half of the full tap is at most so old."""
    check_row(row)
    return first_age(row, HALF, 0)


def older_in(row, age, year):
    """Return the share of what the tap gives in a year that has an age or more, None if it gives nothing."""
    check_row(row)
    check_age(age)
    check_year(year)
    if year < len(row):
        return None
    if age > year:
        return ZERO
    left = left_at(row, year)
    return divided(lessened(still_in(row, age), left), lessened(ONE, left))


def label_from(row, age, share):
    """Return the first year from which on the tap gives wine of which at least a share has an age or more, or None."""
    check_row(row)
    check_age(age)
    check_share(share)
    if age <= len(row) or share == ZERO:
        return len(row)
    younger, others = lessened(ONE, still_in(row, age)), lessened(ONE, share)
    # All that the tap gives comes near to one part, and reaches it only if all of it is of one age.
    if order(younger, others) >= 0:
        return None
    return first_age(row, lessened(ONE, divided(younger, others)), age)


def still_in(row, age):
    """Return how much of a year's wine the tap gives at an age or later."""
    return ONE if age == 0 else left_at(row, age - 1)
