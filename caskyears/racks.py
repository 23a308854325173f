"""Racks of barrels, each of which can be taken out if all barrels of one of its sides are out."""

from caskyears.anew import built_anew
from caskyears.deeds import check_cask, is_cask_of
from caskyears.errors import BadSides


def takeable(sides):
    """Return the ascending list of the barrels that can ever be taken out."""
    check_sides(sides)
    return sorted(taken_in_turn(sides))


def order(sides):
    """Return a list of all barrels that can ever be taken out, in which each can be taken in its turn."""
    check_sides(sides)
    return taken_in_turn(sides)


def stuck(sides, barrel):
    """Return an ascending list of barrels that keep each other, this one among them, None if it can be taken."""
    check_barrel(sides, barrel)
    taken = taken_in_turn(sides)
    return None if barrel in taken else [other for other in range(len(sides)) if other not in taken]


def stuck_holds(sides, barrel, value):
    """Return whether any object is an ascending list of barrels that keep each other, this one among them."""
    check_barrel(sides, barrel)
    if not are_barrels(value, len(sides)) or barrel not in value:
        return False
    if not all([value[at] < value[at + 1] for at in range(len(value) - 1)]):
        return False
    return all([any([kept in value for kept in side]) for other in value for side in sides[other]])


def order_holds(sides, value):
    """Return whether any object is a list of unlike barrels, each of which can be taken in its turn."""
    check_sides(sides)
    if not are_barrels(value, len(sides)):
        return False
    return all([entry not in value[:at] and is_free(sides, entry, value[:at]) for at, entry in enumerate(value)])


def least_ahead(sides, barrel):
    """Return the least number of other barrels to take out ahead of a barrel, None if it can never be taken."""
    found = fewest_ahead(sides, barrel)
    return None if found is None else len(found)


def some_ahead(sides, barrel):
    """Return an ascending list of the fewest barrels to take out ahead of a barrel, None if it can never be taken."""
    return fewest_ahead(sides, barrel)


def orders(sides):
    """Return how many lists of all barrels that can ever be taken out there are."""
    check_sides(sides)
    counts = {(): 1}
    for _ in taken_in_turn(sides):
        further = {}
        for out, ways in counts.items():
            for longer in one_more(sides, out):
                further[longer] = further.get(longer, 0) + ways
        counts = further
    return sum(list(counts.values()))


def is_side(value, barrel, many):
    """Return whether any object is an ascending tuple of other barrels."""
    if not isinstance(value, tuple) or not all([is_cask_of(entry, many) and entry != barrel for entry in value]):
        return False
    return all([value[at] < value[at + 1] for at in range(len(value) - 1)])


def check_sides(sides):
    """Raise an error for what are no sides."""
    if not isinstance(sides, tuple):
        raise BadSides(built_anew(sides))
    for barrel, entry in enumerate(sides):
        if not isinstance(entry, tuple) or not entry:
            raise BadSides(built_anew(sides))
        if not all([is_side(side, barrel, len(sides)) for side in entry]):
            raise BadSides(built_anew(sides))


def check_barrel(sides, barrel):
    """Raise an error for what are no sides, and for a barrel that is not there."""
    check_sides(sides)
    check_cask(barrel, len(sides))


def are_barrels(value, many):
    """Return whether any object is a list of barrels."""
    return isinstance(value, list) and all([is_cask_of(entry, many) for entry in value])


def is_free(sides, barrel, out):
    """Return whether a barrel can be taken out if these are out."""
    return any([all([other in out for other in side]) for side in sides[barrel]])


def taken_in_turn(sides):
    """Return the list of the barrels in which all that can be taken are taken, again and again."""
    taken, free = [], free_barrels(sides, [])
    while free:
        taken = taken + free
        free = free_barrels(sides, taken)
    return taken


def free_barrels(sides, out):
    """Return the ascending list of the other barrels that can be taken out if these are out."""
    return [barrel for barrel in range(len(sides)) if barrel not in out and is_free(sides, barrel, out)]


def one_more(sides, out):
    """Return the list of the ascending tuples of those that are out and one more that can be taken."""
    return [tuple(sorted(out + (barrel,))) for barrel in free_barrels(sides, out)]


def fewest_ahead(sides, barrel):
    """Return an ascending list of the fewest barrels to take out ahead of a barrel, None if it can never be taken."""
    check_barrel(sides, barrel)
    line = [()]
    while line:
        for out in line:
            if is_free(sides, barrel, out):
                return list(out)
        further = {longer: True for out in line for longer in one_more(sides, out)}
        line = sorted(list(further))
    return None
