"""Waiting by factors, and working by tables, in either sequence."""

from caskyears.anew import built_anew
from caskyears.errors import InvalidFill, Unlike
from caskyears.fills import MOST_CASKS, check_cellar, scaled
from caskyears.fractions import ZERO, is_share, multiplied, order, products
from caskyears.grids import grid_of, powered
from caskyears.tables import check_rounds, check_table, column_sums


def waited(cellar, factors):
    """Return the cellar behind waiting by factors."""
    check_cellar(cellar)
    check_factors(factors, len(cellar))
    return tuple([scaled(fill, factor) for fill, factor in zip(cellar, factors)])


def passes(table, factors):
    """Return whether to wait and to work a table leave the same of all cellars in either sequence."""
    return first_passed(table, factors) is None


def first_passed(table, factors):
    """Return the least casks (from, into) with unlike factors between which a table brings something, or None."""
    check_table(table)
    check_factors(factors, len(table))
    for source in range(len(table)):
        for goal in range(len(table)):
            if table[goal][source] != ZERO and factors[source] != factors[goal]:
                return source, goal
    return None


def more_left(table, factors):
    """Return what is better done first to have more left: "waiting" or "pouring", or that both are "alike", or not."""
    check_table(table)
    check_factors(factors, len(table))
    signs = []
    for cask, whole in enumerate(column_sums(table)):
        poured_first = products([row[cask] for row in table], factors)
        signs.append(order(multiplied(factors[cask], whole), poured_first))
    if 1 in signs and -1 in signs:
        return "neither"
    if 1 in signs:
        return "waiting"
    return "pouring" if -1 in signs else "alike"


def ways_round(table, factors, rounds):
    """Return the table of so many rounds of waiting and then working by the table."""
    check_table(table)
    check_factors(factors, len(table))
    check_rounds(rounds)
    once = [[multiplied(entry, factor) for entry, factor in zip(row, factors)] for row in table]
    return powered(grid_of(once), rounds)


def are_factors(value):
    """Return whether any object is a tuple of one to eight shares."""
    if not isinstance(value, tuple) or not 1 <= len(value) <= MOST_CASKS:
        return False
    return all([is_share(entry) for entry in value])


def check_factors(value, casks):
    """Raise an error for what are no factors, and for factors of another number of casks."""
    if not are_factors(value):
        raise InvalidFill(built_anew(value))
    if len(value) != casks:
        raise Unlike(len(value))
