"""Tables without loss that work one cellar to another one, and prices that show that there are none."""

from caskyears.errors import Unlike
from caskyears.feasible import point_or_refusal
from caskyears.fills import amount_of, check_cellar, kinds_of, size_of
from caskyears.fractions import ONE, ZERO, added, is_fraction, negative, order, products
from caskyears.recipes import left_by
from caskyears.tables import column_sums, is_table

MOST_WISHES = 8


def table_to(one, other):
    """Return a table without loss that works the one cellar to the other one, None if there is none."""
    check_both(one, other)
    word, entries = table_or_prices(one, other)
    if word == "refusal":
        return None
    casks = len(one)
    return tuple([tuple(entries[casks * cask : casks * cask + casks]) for cask in range(casks)])


def table_to_holds(one, other, value):
    """Return whether any object is a table without loss that works the one cellar to the other one."""
    check_both(one, other)
    if not is_table(value) or len(value) != len(one) or column_sums(value) != [ONE] * len(one):
        return False
    return left_by(value, one) == other


def prices_against(one, other):
    """Return prices by which the other cellar is worth more than the one, None if there are none."""
    check_both(one, other)
    word, prices = table_or_prices(one, other)
    if word == "point":
        return None
    kinds, casks = len(kinds_of(one + other)), len(one)
    return [[negative(price) for price in prices[casks + kinds * at :][:kinds]] for at in range(casks)]


def prices_hold(one, other, value):
    """Return whether any object is prices by which the other cellar is worth more than the one."""
    check_both(one, other)
    kinds = kinds_of(one + other)
    if not isinstance(value, list) or not 1 <= len(value) <= MOST_WISHES:
        return False
    if not all([is_wish(wish, len(kinds)) for wish in value]):
        return False
    return order(worth(other, kinds, value), worth(one, kinds, value)) > 0


def check_both(one, other):
    """Raise an error for what are no two cellars with as many casks, each as full in both."""
    check_cellar(one)
    check_cellar(other)
    if len(one) != len(other):
        raise Unlike(len(other))
    for cask in range(len(one)):
        if size_of(one[cask]) != size_of(other[cask]):
            raise Unlike(cask)


def is_wish(value, kinds):
    """Return whether any object is a list of a fraction for each of so many kinds."""
    return isinstance(value, list) and len(value) == kinds and all([is_fraction(price) for price in value])


def worth(cellar, kinds, prices):
    """Return what the casks of a cellar are worth together by prices."""
    result = ZERO
    for fill in cellar:
        amounts = [amount_of(fill, kind) for kind in kinds]
        worths = [products(amounts, wish) for wish in prices]
        best = worths[0]
        for entry in worths:
            if order(entry, best) > 0:
                best = entry
        result = added(result, best)
    return result


def table_or_prices(one, other):
    """Return ("point", entries of a table, row by row) or ("refusal", prices of the equations).

    The equations are first that each column adds up to 1, then, cask by cask of the other, that it has what it
    should of each kind. The prices of the latter with the other sign are what the wishes of the casks tell: what a
    column is worth at best is at most the price of its sum, so the other cellar is worth more than the one.
    """
    casks = range(len(one))
    kinds = kinds_of(one + other)
    rows = [[ONE if source == column else ZERO for goal in casks for source in casks] for column in casks]
    right = [ONE] * len(one)
    for at in casks:
        for kind in kinds:
            amounts = [amount_of(fill, kind) for fill in one]
            rows.append([amounts[source] if goal == at else ZERO for goal in casks for source in casks])
            right.append(amount_of(other[at], kind))
    return point_or_refusal(rows, right)
