"""Yearly cellars that are alike at the glass, and the least numbers that give one."""

from caskyears.anew import built_anew
from caskyears.errors import InvalidFill, InvalidNumber, NoSolution
from caskyears.fills import MOST_CASKS
from caskyears.fractions import ONE, ZERO, is_fraction, products, reduced
from caskyears.recurrences import going_on, recurrence_of
from caskyears.series import belows, weighed
from caskyears.tables import is_list_of
from caskyears.yearly import check_yearly, glass_amounts, step_of

MOST_AMOUNTS = 40


def alike_glasses(one, other):
    """Return whether two yearly cellars have the same glass in all years."""
    return first_unlike(one, other) is None


def first_unlike(one, other):
    """Return the least age of which the glasses have unlike amounts, None if there is none."""
    check_yearly(one)
    check_yearly(other)
    last = len(one[0]) + len(other[0])
    mine, theirs = glass_amounts(one, last), glass_amounts(other, last)
    return min([age for age in range(last + 1) if mine[age] != theirs[age]], default=None)


def least_size(yearly):
    """Return the least number of casks, amounts below 0 let in, whose glasses have the same."""
    check_yearly(yearly)
    return len(glass_factors(yearly))


def least_numbers(yearly):
    """Return a table, an into and a tap of the least size, amounts below 0 let in, whose glasses have the same.

    Each place has the amount of an age, and hands it on to the place ahead; the last one gets the next amount.
    """
    check_yearly(yearly)
    factors = glass_factors(yearly)
    many = len(factors)
    table = [[ONE if at == place + 1 else ZERO for at in range(many)] for place in range(many)]
    if many > 0:
        table[-1] = factors[::-1]
    return table, glass_amounts(yearly, many)[1:], [ONE if place == 0 else ZERO for place in range(many)]


def numbers_hold(yearly, value):
    """Return whether any object is a table, an into and a tap of fractions whose glasses have the same."""
    check_yearly(yearly)
    if not are_glass_numbers(value):
        return False
    table, into, tap = value
    ages = len(yearly[0]) + len(into)
    for much in glass_amounts(yearly, ages)[1:]:
        if products(tap, into) != much:
            return False
        into = [products(row, into) for row in table]
    return True


def recurrence(amounts):
    """Return the shortest list of factors by which each amount comes of those one before, two before and so on."""
    check_amounts(amounts)
    return factors_of(amounts)


def next_amounts(amounts, many):
    """Return the list of so many further amounts that go on by the shortest list of factors."""
    check_amounts(amounts)
    factors = factors_of(amounts)
    if many < 0:
        raise InvalidNumber(many)
    return going_on(amounts, factors, many)


def told_casks(amounts):
    """Return the length of the shortest list of factors."""
    check_amounts(amounts)
    return len(factors_of(amounts))


def check_amounts(value):
    """Raise an error for what is no list of 1 to 40 fractions."""
    if not isinstance(value, list) or not 1 <= len(value) <= MOST_AMOUNTS:
        raise InvalidFill(built_anew(value))
    if not all([is_fraction(entry) for entry in value]):
        raise InvalidFill(built_anew(value))


def factors_of(amounts):
    """Return the shortest list of factors; raise an error if it is not the only one."""
    factors = recurrence_of(amounts)
    if factors is None:
        raise NoSolution(built_anew(amounts))
    return factors


def glass_factors(yearly):
    """Return the shortest list of factors by which the glass goes on from age to age.

    Twice as many ages as casks tell it. The numbers above those below, each of which is a factor of the next one,
    go on by multiples of the same factors.
    """
    casks = len(yearly[0])
    numbers, _, factor = weighed(step_of(yearly), yearly[1], yearly[2], 2 * casks - 1)
    raised = recurrence_of([(number, 1) for number in numbers])
    scales = belows(factor, factor, casks)
    return [reduced(entry[0], entry[1] * scale) for entry, scale in zip(raised, scales)]


def are_glass_numbers(value):
    """Return whether any object is a table, an into and a tap of fractions, of one size from 0 to 8."""
    if not isinstance(value, tuple) or len(value) != 3 or not all([isinstance(entry, list) for entry in value]):
        return False
    table, into, tap = value
    many = len(table)
    if many > MOST_CASKS or not is_list_of(into, many) or not is_list_of(tap, many):
        return False
    return all([is_list_of(row, many) for row in table])
