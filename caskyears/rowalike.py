"""Rows that are alike at the tap, and the row that a tap tells."""

from caskyears.anew import built_anew
from caskyears.errors import InvalidFill, NoSolution, Unlike
from caskyears.fractions import ONE, ZERO, common, divided, is_fraction, multiplied, negative, reduced, total
from caskyears.roots import roots_of
from caskyears.rows import MOST_STAGES, check_row, tap_amounts

LEAST_TOLD = 13
MOST_TOLD = 100


def alike_at_tap(one, other):
    """Return whether two rows give the same at the tap in all years."""
    check_row(one)
    check_row(other)
    return sorted(one) == sorted(other)


def first_unlike_age(one, other):
    """Return the least age of which the taps give unlike amounts, None if there is none."""
    check_row(one)
    check_row(other)
    last = len(one) + len(other)
    mine, theirs = tap_amounts(one, last), tap_amounts(other, last)
    return min([age for age in range(last + 1) if mine[age] != theirs[age]], default=None)


def told_row(amounts):
    """Return the row, shares never falling, whose tap gives the amounts, from the age 0 on."""
    if not are_told(amounts):
        raise InvalidFill(built_anew(amounts))
    row = row_from(amounts)
    if row is None or tap_amounts(row, len(amounts) - 1) != amounts:
        raise NoSolution(built_anew(amounts))
    return row


def first_unlike_stage(one, other):
    """Return the first year and stage with unlike amounts in two rows with as many stages, None if there is none."""
    check_row(one)
    check_row(other)
    if len(one) != len(other):
        raise Unlike(len(other))
    # Wine is first in a stage in the year of its number, and what the stage keeps of it tells its share a year later.
    return min([(stage + 1, stage) for stage in range(len(one)) if one[stage] != other[stage]], default=None)


def freest_order(row):
    """Return the row of the same shares in which the limits in the stages compare least, the first one first.

    The limit in a stage is one over its share.
    """
    check_row(row)
    whole, _ = common(row)
    falling = sorted(range(len(row)), key=lambda stage: -whole[stage])
    return tuple([row[at] for at in falling])


def are_told(value):
    """Return whether any object is a list of 13 to 100 fractions."""
    if not isinstance(value, list) or not LEAST_TOLD <= len(value) <= MOST_TOLD:
        return False
    return all([is_fraction(entry) for entry in value])


def row_from(amounts):
    """Return the only row that may give the amounts, None if there can be none."""
    given = [age for age in range(len(amounts)) if amounts[age] != ZERO]
    if not given or not 1 <= given[0] <= MOST_STAGES:
        return None
    many = given[0]
    factors, below = common(kept_polynomial([divided(entry, amounts[many]) for entry in amounts[many:]], many))
    # Taken below times as great, the roots are integers, as the first factor becomes 1.
    whole, power = [1], 1
    for factor in factors[1:]:
        whole.append(factor * power)
        power = power * below
    kept = roots_of(whole, below)
    if kept is None or kept[0] == below:
        return None
    return tuple([reduced(below - root, below) for root in kept])


def kept_polynomial(amounts, many):
    """Return the falling polynomial, the first entry 1, whose roots are the shares that so many stages keep.

    The amounts, of which the first one is 1, are the sums of all products of so many of these shares; each but the
    first one is told by those ahead, as the polynomial tells it.
    """
    found = [ONE]
    for place in range(1, many + 1):
        known = total([multiplied(found[at], amounts[place - at]) for at in range(place)])
        found.append(negative(known))
    return found
