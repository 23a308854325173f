"""Rows of stages, drawn at the last one and filled at the first one, year by year."""

from caskyears.anew import built_anew
from caskyears.errors import InvalidFraction, InvalidNumber, InvalidRow
from caskyears.fractions import ONE, ZERO, divided, is_above_zero, is_share, lessened
from caskyears.series import all_left, by_years, each_reading, each_sum, first_at_most, last_reading, readings
from caskyears.series import sum_of_readings

MOST_STAGES = 6


def is_row(value):
    """Return whether any object is a row."""
    if not isinstance(value, tuple) or not 1 <= len(value) <= MOST_STAGES:
        return False
    return all([is_share(entry) and entry != ZERO for entry in value])


def tap_amount(row, age):
    """Return the amount of wine of an age that the tap gives."""
    check_row(row)
    check_age(age)
    if age == 0:
        return ZERO
    return last_reading(step_of(row), first_full(row), last_drawn(row), age - 1)


def tap(row, year):
    """Return the ascending list of tuples (year of the wine, amount) of what the tap gives in a year."""
    check_row(row)
    check_year(year)
    return by_years(tap_amounts(row, year), year)


def stages(row, year):
    """Return the list, for each stage, of the list of tuples (year of the wine, amount) at the end of a year."""
    check_row(row)
    check_year(year)
    return [by_years(amounts, year) for amounts in each_reading(step_of(row), first_full(row), year)]


def tap_total(row, year):
    """Return the amount that the tap gives in a year."""
    check_row(row)
    check_year(year)
    if year == 0:
        return ZERO
    return sum_of_readings(step_of(row), first_full(row), last_drawn(row), year - 1)


def stage_totals(row, year):
    """Return the tuple of the amounts in the stages at the end of a year."""
    check_row(row)
    check_year(year)
    return each_sum(step_of(row), first_full(row), year)


def limits(row):
    """Return the tuple of the amounts that those in the stages come near to.

    Then as much goes on from each stage in a year as is put in.
    """
    check_row(row)
    return tuple([divided(ONE, share) for share in row])


def all_by(row, nearness):
    """Return the least age by which the tap has given all of a year's wine but at most the nearness."""
    check_row(row)
    if not is_above_zero(nearness):
        raise InvalidFraction(built_anew(nearness))
    return first_age(row, nearness, 0)


def check_row(value):
    """Raise an error for what is no row."""
    if not is_row(value):
        raise InvalidRow(built_anew(value))


def check_age(age):
    """Raise an error for an age below 0."""
    if age < 0:
        raise InvalidNumber(age)


def check_year(year):
    """Raise an error for a year below 0."""
    if year < 0:
        raise InvalidNumber(year)


def step_of(row):
    """Return the rows of shares of what is in each stage that are in each one a year later, ahead of the new wine."""
    places = range(len(row))
    rows = [[ZERO for source in places] for goal in places]
    for at, share in enumerate(row):
        rows[at][at] = lessened(ONE, share)
        if at > 0:
            rows[at][at - 1] = row[at - 1]
    return rows


def first_full(row):
    """Return the list of what a year's wine is in the stages at the end of the year."""
    return [ONE] + [ZERO] * (len(row) - 1)


def last_drawn(row):
    """Return the list of the shares of the stages that the tap gives."""
    return [ZERO] * (len(row) - 1) + [row[-1]]


def tap_amounts(row, age):
    """Return the list of the amounts that the tap gives of each age from 0 to the told one."""
    if age == 0:
        return [ZERO]
    return [ZERO] + readings(step_of(row), first_full(row), last_drawn(row), age - 1)


def left_at(row, age):
    """Return how much of a year's wine is still in the stages at an age."""
    return all_left(step_of(row), first_full(row), age)


def first_age(row, bound, earliest):
    """Return the first age, from the earliest on, at which at most the bound of a year's wine is in the stages."""
    return first_at_most(step_of(row), first_full(row), bound, earliest)
