"""How old wine goes out of a yearly cellar."""

from caskyears.anew import built_anew
from caskyears.errors import InvalidFill, InvalidFraction
from caskyears.fractions import is_from_zero, order, products, reduced_by
from caskyears.rounds import rings_of, shares_into
from caskyears.rows import check_year
from caskyears.series import all_left, belows, each_last, first_at_most, turned_back, wheel_of
from caskyears.yearly import check_yearly, step_of


def left(yearly, old, year):
    """Return the tuple of what is in each cask of the old wine at the end of a year."""
    check_old(yearly, old)
    check_year(year)
    return each_last(step_of(yearly), old, year)


def left_for_ever(yearly, old):
    """Return the amount to which all of the old wine together comes near."""
    check_old(yearly, old)
    return products(shares_for_ever(step_of(yearly)), old)


def clean_from(yearly, old, amount):
    """Return the first year at the end of which, and for ever, the old wine is at most an amount, None if never."""
    check_old(yearly, old)
    if not is_from_zero(amount):
        raise InvalidFraction(built_anew(amount))
    step = step_of(yearly)
    sign = order(amount, products(shares_for_ever(step), old))
    # What goes out at last is gone in as many years as there are casks, or it never is: then it goes round.
    if sign < 0 or (sign == 0 and all_left(step, old, len(old)) != amount):
        return None
    return first_at_most(step, old, amount, 0)


def slowest(yearly, year):
    """Return the first cask one part of old wine in which leaves most at the end of a year, and how much it leaves."""
    check_yearly(yearly)
    check_year(year)
    columns, factor = wheel_of(step_of(yearly))
    numbers = [1] * len(columns)
    for _ in range(year):
        numbers = turned_back(columns, numbers)
    cask = numbers.index(max(numbers))
    return cask, reduced_by(numbers[cask], belows(1, factor, year)[-1], factor)


def check_old(yearly, old):
    """Raise an error for what is no yearly cellar, and for what is no old wine in it."""
    check_yearly(yearly)
    if not isinstance(old, tuple) or len(old) != len(yearly[0]) or not all([is_from_zero(entry) for entry in old]):
        raise InvalidFill(built_anew(old))


def shares_for_ever(step):
    """Return the list, for each cask, of the share of what is in it that never goes out: what comes into rings."""
    rings = rings_of(step)
    return shares_into(step, [cask for ring in rings for cask in ring], rings)
