"""Blends of the casks of a cellar: which fills they make, and prices that show that none makes one."""

from itertools import combinations

from caskyears.anew import built_anew
from caskyears.errors import BadSizes, InvalidFill
from caskyears.fills import amount_of, check_cellar, check_fill, is_fill, joined, kinds_of, scaled, size_of
from caskyears.fractions import ONE, ZERO, divided, is_fraction, is_from_zero, lessened, multiplied, negative, order
from caskyears.fractions import products, total
from caskyears.inequalities import nothing, outcome


def blended(cellar, blend):
    """Return the fill of a blend."""
    check_cellar(cellar)
    if not is_blend(blend, cellar):
        raise BadSizes(built_anew(blend))
    parts = [(fill, much) for fill, much in zip(cellar, blend) if much != ZERO]
    return joined([scaled(fill, divided(much, size_of(fill))) for fill, much in parts])


def blend_for(cellar, fill):
    """Return a blend whose fill is this one, None if there is none."""
    check_both(cellar, fill)
    found = blending(cellar, fill)
    if found[0] == "none":
        return None
    return tuple([multiplied(share, size_of(entry)) for share, entry in zip(found[2], cellar)])


def no_blend(cellar, fill):
    """Return prices of kinds and of casks that show that there is no blend, None if there is one."""
    check_both(cellar, fill)
    found = blending(cellar, fill)
    if found[0] != "none":
        return None
    casks, kinds = len(cellar), kinds_of(cellar + (fill,))
    told, whole = found[1][casks:-casks], found[1][-casks:]
    prices = [(kind, lessened(told[2 * at + 1], told[2 * at])) for at, kind in enumerate(kinds)]
    # The prices that are found are those of whole casks.
    parts = [divided(price, size_of(entry)) if entry else ZERO for price, entry in zip(whole, cellar)]
    return tuple(prices), tuple(parts)


def no_blend_holds(cellar, fill, value):
    """Return whether any object is such prices."""
    check_both(cellar, fill)
    kinds = kinds_of(cellar + (fill,))
    if not isinstance(value, tuple) or len(value) != 2 or not are_prices(value[0], kinds):
        return False
    if not isinstance(value[1], tuple) or len(value[1]) != len(cellar):
        return False
    if not all([is_from_zero(price) for price in value[1]]):
        return False
    prices = [price for _, price in value[0]]
    worths = [products(amounts_in(entry, kinds), prices) for entry in cellar]
    limits = [products([size_of(entry)], [price]) for entry, price in zip(cellar, value[1])]
    if any([order(worth, limit) > 0 for worth, limit in zip(worths, limits)]):
        return False
    return order(products(amounts_in(fill, kinds), prices), total(limits)) > 0


def most_of(cellar, shares):
    """Return the greatest amount of a fill with these shares that can be blended."""
    check_cellar(cellar)
    if not is_fill(shares) or size_of(shares) != ONE:
        raise InvalidFill(built_anew(shares))
    # One unknown more is the amount, of which the fill has its shares.
    number = len(cellar) + 1
    rows = uppers(number)[:-1] + lowers(number)
    for kind in kinds_of(cellar + (shares,)):
        rows.extend(both_ways(amounts_of(cellar, kind) + [negative(amount_of(shares, kind))], ZERO))
    return outcome((number, tuple(rows)), (ZERO,) * len(cellar) + (ONE,))[1]


def fewest_casks(cellar, fill):
    """Return the ascending tuple of the fewest casks from which a fill can be blended, None if there is none."""
    check_both(cellar, fill)
    if blending(cellar, fill)[0] == "none":
        return None
    chosen = [casks for many in range(len(cellar) + 1) for casks in combinations(range(len(cellar)), many)]
    at = 0
    while blending(tuple([cellar[cask] for cask in chosen[at]]), fill)[0] == "none":
        at += 1
    return chosen[at]


def unneeded(cellar):
    """Return the ascending list of the casks, not empty, whose shares some blend of the other ones has."""
    check_cellar(cellar)
    found = []
    for cask, fill in enumerate(cellar):
        others = cellar[:cask] + cellar[cask + 1 :]
        # The other casks may be as large as one likes, so there is no limit to how often each is taken.
        system = (len(others), tuple(making(others, fill)))
        if fill and outcome(system, nothing(system))[0] != "none":
            found.append(cask)
    return found


def is_blend(value, cellar):
    """Return whether any object is a tuple of an amount for each cask, at most its size."""
    if not isinstance(value, tuple) or len(value) != len(cellar) or not all([is_from_zero(entry) for entry in value]):
        return False
    return all([order(much, size_of(fill)) <= 0 for much, fill in zip(value, cellar)])


def check_both(cellar, fill):
    """Raise an error for what is no cellar, and for what is no fill."""
    check_cellar(cellar)
    check_fill(fill)


def are_prices(value, kinds):
    """Return whether any object is a tuple of tuples of each of these kinds and a fraction."""
    if not isinstance(value, tuple) or len(value) != len(kinds):
        return False
    return all([is_price(entry, kind) for entry, kind in zip(value, kinds)])


def is_price(value, kind):
    """Return whether any object is a tuple of this kind and a fraction."""
    if not isinstance(value, tuple) or len(value) != 2 or not isinstance(value[0], str):
        return False
    return value[0] == kind and is_fraction(value[1])


def amounts_in(fill, kinds):
    """Return the list of the amounts of kinds in a fill."""
    return [amount_of(fill, kind) for kind in kinds]


def amounts_of(fills, kind):
    """Return the list of the amounts of a kind in fills."""
    return [amount_of(fill, kind) for fill in fills]


def units(number):
    """Return the list of the factors of each unknown alone."""
    return [tuple([ONE if at == place else ZERO for at in range(number)]) for place in range(number)]


def lowers(number):
    """Return the list of the rows that no unknown is below 0."""
    return [(tuple([negative(entry) for entry in unit]), ZERO) for unit in units(number)]


def uppers(number):
    """Return the list of the rows that no unknown is above 1."""
    return [(unit, ONE) for unit in units(number)]


def both_ways(factors, right):
    """Return the list of the two rows that tell that a sum is just so much."""
    return [(tuple(factors), right), (tuple([negative(entry) for entry in factors]), negative(right))]


def making(fills, fill):
    """Return the list of the rows of how often each of the fills is taken to make one, kind by kind."""
    rows = lowers(len(fills))
    for kind in kinds_of(fills + (fill,)):
        rows.extend(both_ways(amounts_of(fills, kind), amount_of(fill, kind)))
    return rows


def blending(fills, fill):
    """Return what outcome tells of the shares of fills, from 0 to 1, that make one together."""
    system = (len(fills), tuple(making(fills, fill) + uppers(len(fills))))
    return outcome(system, nothing(system))
