"""Systems of rows of factors with a bound: points at which all hold, greatest values, and what shows them."""

from caskyears.anew import built_anew
from caskyears.errors import BadAim, BadStand, BadSystem
from caskyears.fractions import ZERO, check_fraction, divided, is_fraction, is_from_zero, is_integer, order, products
from caskyears.programs import least_cost


def is_system(value):
    """Return whether any object is a system."""
    if not isinstance(value, tuple) or len(value) != 2 or not is_integer(value[0]) or value[0] < 0:
        return False
    return isinstance(value[1], tuple) and all([is_row_of(row, value[0]) for row in value[1]])


def holds_at(system, point):
    """Return whether all rows hold at a point."""
    check_system(system)
    if not is_tuple_of(point, system[0]):
        raise BadStand(built_anew(point))
    return all_hold(system, point)


def point_of(system):
    """Return a point at which all rows hold, None if there is none."""
    check_system(system)
    found = outcome(system, nothing(system))
    return None if found[0] == "none" else tuple(found[2])


def refusal_of(system):
    """Return multipliers that show that there is no point, None if there is one."""
    check_system(system)
    found = outcome(system, nothing(system))
    return tuple(found[1]) if found[0] == "none" else None


def refusal_holds(system, value):
    """Return whether any object is multipliers that show that there is no point."""
    check_system(system)
    return refuses(system, value)


def greatest(system, aim):
    """Return ("none",) without a point, ("endless",) without a greatest value of the aim, or ("value", fraction)."""
    check_aim(system, aim)
    found = outcome(system, aim)
    return found[:2] if found[0] == "value" else found[:1]


def best_point(system, aim):
    """Return a point at which the aim is greatest, None unless it has a greatest value."""
    check_aim(system, aim)
    found = outcome(system, aim)
    return tuple(found[2]) if found[0] == "value" else None


def prices(system, aim):
    """Return multipliers that make the aim with its greatest value as the bound, None unless it has one."""
    check_aim(system, aim)
    found = outcome(system, aim)
    return tuple(found[3]) if found[0] == "value" else None


def prices_hold(system, aim, bound, value):
    """Return whether any object is multipliers that make the aim with a bound of at most the told one."""
    check_aim(system, aim)
    check_fraction(bound)
    return make(system, aim, bound, value)


def way_on(system, aim):
    """Return a way along which the aim grows without end, None unless it may do so."""
    check_aim(system, aim)
    found = outcome(system, aim)
    return tuple(found[1]) if found[0] == "endless" else None


def is_tuple_of(value, many):
    """Return whether any object is a tuple of so many fractions."""
    return isinstance(value, tuple) and len(value) == many and all([is_fraction(entry) for entry in value])


def is_row_of(value, many):
    """Return whether any object is a row of factors for so many unknowns, with a bound."""
    return isinstance(value, tuple) and len(value) == 2 and is_tuple_of(value[0], many) and is_fraction(value[1])


def check_system(value):
    """Raise an error for what is no system."""
    if not is_system(value):
        raise BadSystem(built_anew(value))


def check_aim(system, aim):
    """Raise an error for what is no system, and for what is no aim of its unknowns."""
    check_system(system)
    if not is_tuple_of(aim, system[0]):
        raise BadAim(built_anew(aim))


def nothing(system):
    """Return the aim at which all is worth nothing."""
    return (ZERO,) * system[0]


def all_hold(system, point):
    """Return whether all rows hold at what is known to be a point."""
    return all([order(products(factors, point), bound) <= 0 for factors, bound in system[1]])


def outcome(system, aim):
    """Return how great the aim may be in what is known to be a system.

    This is ("none", refusal), ("endless", way, point) or ("value", fraction, point, prices). Prices that are least
    are worth the greatest value, and what they are worth at most is a point.
    """
    columns, bounds = [row[0] for row in system[1]], [row[1] for row in system[1]]
    word, first, second = least_cost(columns, bounds, aim)
    if word == "endless":
        return "none", first
    if word == "least":
        return "value", products(bounds, first), second, first
    # No prices make the aim, so it grows without end if there is a point.
    start = outcome(system, nothing(system))
    if start[0] == "none":
        return start
    step = products(first, aim)
    return "endless", [divided(entry, step) for entry in first], start[2]


def combined(system, multipliers):
    """Return the factors and the bound that multipliers make of the rows."""
    factors = [products([row[0][at] for row in system[1]], multipliers) for at in range(system[0])]
    return tuple(factors), products([row[1] for row in system[1]], multipliers)


def are_multipliers(system, value):
    """Return whether any object is multipliers of the rows."""
    return isinstance(value, tuple) and len(value) == len(system[1]) and all([is_from_zero(entry) for entry in value])


def refuses(system, value):
    """Return whether any object is multipliers which show that what is known to be a system has no point."""
    if not are_multipliers(system, value):
        return False
    factors, bound = combined(system, value)
    return factors == nothing(system) and bound[0] < 0


def make(system, aim, bound, value):
    """Return whether any object is multipliers that make the aim with a bound of at most the told one."""
    if not are_multipliers(system, value):
        return False
    factors, made = combined(system, value)
    return factors == aim and order(made, bound) <= 0
