"""Fills, what is in a cask, and cellars, tuples of them."""

from caskyears.anew import built_anew
from caskyears.errors import InvalidCellar, InvalidFill, Unlike
from caskyears.fractions import ZERO, added, check_share, divided, is_above_zero, lessened, multiplied, order, total

MOST_LETTERS = 8
MOST_CASKS = 8


def is_kind(value):
    """Return whether any object is a kind."""
    if not isinstance(value, str) or not 1 <= len(value) <= MOST_LETTERS:
        return False
    return all(["a" <= letter <= "z" for letter in value])


def is_fill(value):
    """Return whether any object is a fill."""
    if not isinstance(value, tuple) or not all([is_part(entry) for entry in value]):
        return False
    return all([value[at][0] < value[at + 1][0] for at in range(len(value) - 1)])


def is_part(value):
    """Return whether any object is a tuple of a kind and an amount above 0."""
    return isinstance(value, tuple) and len(value) == 2 and is_kind(value[0]) and is_above_zero(value[1])


def is_cellar(value):
    """Return whether any object is a cellar."""
    if not isinstance(value, tuple) or not 1 <= len(value) <= MOST_CASKS:
        return False
    return all([is_fill(fill) for fill in value])


def check_kind(value):
    """Raise an error for what is no kind."""
    if not is_kind(value):
        raise InvalidFill(built_anew(value))


def check_fill(value):
    """Raise an error for what is no fill."""
    if not is_fill(value):
        raise InvalidFill(built_anew(value))


def check_cellar(value):
    """Raise an error for what is no cellar."""
    if not is_cellar(value):
        raise InvalidCellar(built_anew(value))


def size(fill):
    """Return the sum of the amounts."""
    check_fill(fill)
    return size_of(fill)


def amount(fill, kind):
    """Return the amount of a kind."""
    check_fill(fill)
    check_kind(kind)
    return amount_of(fill, kind)


def share_of(fill, kind):
    """Return the amount of a kind over the size, None of no wine."""
    check_fill(fill)
    check_kind(kind)
    if not fill:
        return None
    return divided(amount_of(fill, kind), size_of(fill))


def together(fills):
    """Return the fill of all fills of a list."""
    for fill in fills:
        check_fill(fill)
    return joined(fills)


def part(fill, share):
    """Return the fill with each amount times a share."""
    check_fill(fill)
    check_share(share)
    return scaled(fill, share)


def rest(fill, other):
    """Return the first fill less the second one."""
    check_fill(fill)
    check_fill(other)
    left = {kind: much for kind, much in fill}
    for kind, much in other:
        if order(much, left.get(kind, ZERO)) > 0:
            raise Unlike(kind)
        left[kind] = lessened(left[kind], much)
    return fill_from(left)


def all_of(cellar):
    """Return the fill of all casks together."""
    check_cellar(cellar)
    return joined(cellar)


def size_of(fill):
    """Return the size of what is known to be a fill."""
    return total([entry[1] for entry in fill])


def amount_of(fill, kind):
    """Return the amount of a kind in what is known to be a fill."""
    return total([much for name, much in fill if name == kind])


def joined(fills):
    """Return the fill of what are known to be fills."""
    amounts = {}
    for fill in fills:
        for kind, much in fill:
            amounts[kind] = added(amounts.get(kind, ZERO), much)
    return fill_from(amounts)


def scaled(fill, share):
    """Return what is known to be a fill with each amount times a fraction from 0 on."""
    return fill_from({kind: multiplied(much, share) for kind, much in fill})


def fill_from(amounts):
    """Return the fill of a dict of amounts from 0 on by kinds."""
    return tuple([(kind, amounts[kind]) for kind in sorted(amounts) if amounts[kind] != ZERO])


def kinds_of(fills):
    """Return the ascending list of the kinds in fills."""
    return sorted({entry[0] for fill in fills for entry in fill})
