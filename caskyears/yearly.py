"""Yearly cellars: a table, what comes into each cask in a year, and the shares that the glass takes."""

from caskyears.anew import built_anew
from caskyears.elimination import solved
from caskyears.errors import InvalidYearly
from caskyears.fractions import ONE, ZERO, is_from_zero, is_share, lessened, multiplied
from caskyears.rounds import reach_of, rings_of
from caskyears.rows import check_age, check_row, check_year, first_full
from caskyears.series import by_years, each_reading, each_sum, last_reading, readings
from caskyears.tables import is_table


def is_yearly(value):
    """Return whether any object is a yearly cellar."""
    if not isinstance(value, tuple) or len(value) != 3 or not is_table(value[0]):
        return False
    table, into, tap = value
    if not isinstance(into, tuple) or len(into) != len(table) or not all([is_from_zero(entry) for entry in into]):
        return False
    return isinstance(tap, tuple) and len(tap) == len(table) and all([is_share(entry) for entry in tap])


def of_row(row):
    """Return the yearly cellar that does as a row: its table is what the stages ahead of the last one do."""
    check_row(row)
    places = range(len(row))
    goes = row[:-1] + (ZERO,)
    rows = [[lessened(ONE, goes[at]) if source == at else ZERO for source in places] for at in places]
    for at in range(1, len(row)):
        rows[at][at - 1] = goes[at - 1]
    return tuple([tuple(entries) for entries in rows]), tuple(first_full(row)), (ZERO,) * (len(row) - 1) + row[-1:]


def glass_amount(yearly, age):
    """Return the amount of wine of an age that the glass has."""
    check_yearly(yearly)
    check_age(age)
    if age == 0:
        return ZERO
    return last_reading(step_of(yearly), yearly[1], yearly[2], age - 1)


def glass(yearly, year):
    """Return the ascending list of tuples (year of the wine, amount) of what is in the glass of a year."""
    check_yearly(yearly)
    check_year(year)
    return by_years(glass_amounts(yearly, year), year)


def casks_in(yearly, year):
    """Return the list, for each cask, of the list of tuples (year of the wine, amount) at the end of a year."""
    check_yearly(yearly)
    check_year(year)
    return [by_years(amounts, year) for amounts in each_reading(step_of(yearly), yearly[1], year)]


def totals(yearly, year):
    """Return the tuple of the amounts in the casks at the end of a year."""
    check_yearly(yearly)
    check_year(year)
    return each_sum(step_of(yearly), yearly[1], year)


def steady(yearly):
    """Return the tuple of the amounts that those in the casks come near to, None if some grow without end."""
    check_yearly(yearly)
    if growing(yearly):
        return None
    step, into = step_of(yearly), yearly[1]
    # Nothing comes into a ring if none grows, and what comes into the other casks is what goes on from them.
    inside = [cask for ring in rings_of(step) for cask in ring]
    outside = [cask for cask in range(len(into)) if cask not in inside]
    found = [ZERO] * len(into)
    if outside:
        rows = [[lessened(ONE if to == at else ZERO, step[to][at]) for at in outside] for to in outside]
        for cask, much in zip(outside, solved(rows, [into[cask] for cask in outside])[1]):
            found[cask] = much
    return tuple(found)


def grows(yearly):
    """Return the ascending tuple of the casks whose amounts grow without end."""
    check_yearly(yearly)
    return tuple(growing(yearly))


def check_yearly(value):
    """Raise an error for what is no yearly cellar."""
    if not is_yearly(value):
        raise InvalidYearly(built_anew(value))


def step_of(yearly):
    """Return the table of drawing and working together."""
    table, _, tap = yearly
    stays = [lessened(ONE, share) for share in tap]
    return tuple([tuple([multiplied(entry, left) for entry, left in zip(row, stays)]) for row in table])


def glass_amounts(yearly, age):
    """Return the list of the amounts that the glass has of each age from 0 to the told one."""
    if age == 0:
        return [ZERO]
    return [ZERO] + readings(step_of(yearly), yearly[1], yearly[2], age - 1)


def growing(yearly):
    """Return the ascending list of the casks that grow: those of the rings into which wine comes."""
    step, into = step_of(yearly), yearly[1]
    reach, sources = reach_of(step), [cask for cask in range(len(into)) if into[cask] != ZERO]
    found = []
    for ring in rings_of(step):
        if any([source in ring or reach[source][ring[0]] for source in sources]):
            found.extend(ring)
    return sorted(found)
