"""Fractions: tuples (above, below) of integers in lowest terms.

The functions of the document check what they are passed. Those behind them do not, and serve the rest of the
package, which passes fractions only.
"""

from math import gcd, lcm

from caskyears.anew import built_anew
from caskyears.errors import InvalidFraction, InvalidNumber

ZERO = (0, 1)
ONE = (1, 1)


def is_integer(value):
    """Return whether any object is an integer, True and False being none."""
    return isinstance(value, int) and not isinstance(value, bool)


def is_fraction(value):
    """Return whether any object is a fraction."""
    if not isinstance(value, tuple) or len(value) != 2:
        return False
    if not is_integer(value[0]) or not is_integer(value[1]):
        return False
    return value[1] >= 1 and gcd(value[0], value[1]) == 1


def is_from_zero(value):
    """Return whether any object is a fraction from 0 on."""
    return is_fraction(value) and value[0] >= 0


def is_above_zero(value):
    """Return whether any object is a fraction above 0."""
    return is_fraction(value) and value[0] > 0


def is_share(value):
    """Return whether any object is a share, a fraction from 0 to 1."""
    return is_from_zero(value) and value[0] <= value[1]


def fraction(above, below):
    """Return the fraction of two integers."""
    if below == 0:
        raise InvalidNumber(below)
    return reduced(above, below)


def plus(one, other):
    """Return the sum."""
    check_fraction(one)
    check_fraction(other)
    return added(one, other)


def less(one, other):
    """Return the difference."""
    check_fraction(one)
    check_fraction(other)
    return lessened(one, other)


def times(one, other):
    """Return the product."""
    check_fraction(one)
    check_fraction(other)
    return multiplied(one, other)


def over(one, other):
    """Return the quotient."""
    check_fraction(one)
    check_fraction(other)
    if other == ZERO:
        raise InvalidFraction(built_anew(other))
    return divided(one, other)


def compared(one, other):
    """Return -1, 0 or 1, as the first one is below, at or above the second one."""
    check_fraction(one)
    check_fraction(other)
    return order(one, other)


def sum_of(fractions):
    """Return the sum of a list."""
    for entry in fractions:
        check_fraction(entry)
    return total(fractions)


def check_fraction(value):
    """Raise an error for what is no fraction."""
    if not is_fraction(value):
        raise InvalidFraction(built_anew(value))


def check_share(value):
    """Raise an error for what is no share."""
    if not is_share(value):
        raise InvalidFraction(built_anew(value))


def reduced(above, below):
    """Return the fraction of two integers, the second one of any sign but not 0."""
    divisor = gcd(above, below)
    if below < 0:
        divisor = -divisor
    return above // divisor, below // divisor


def reduced_by(number, below, base):
    """Return the fraction of an integer and a long number below of which each prime divides the base.

    What both have in common is mostly short, and found sooner in steps that double than from the whole numbers.
    """
    if number == 0:
        return ZERO
    shared, left, part = 1, number, gcd(number, base)
    while part > 1:
        shared, left = shared * part, left // part
        part = gcd(left, part * part)
    divisor = gcd(shared, below)
    return number // divisor, below // divisor


def added(one, other):
    """Return the sum of two fractions."""
    return reduced(one[0] * other[1] + other[0] * one[1], one[1] * other[1])


def lessened(one, other):
    """Return the first fraction less the second one."""
    return reduced(one[0] * other[1] - other[0] * one[1], one[1] * other[1])


def multiplied(one, other):
    """Return the product of two fractions."""
    return reduced(one[0] * other[0], one[1] * other[1])


def divided(one, other):
    """Return the quotient of two fractions, the second one not 0."""
    return reduced(one[0] * other[1], one[1] * other[0])


def negative(one):
    """Return the fraction with the other sign."""
    return -one[0], one[1]


def order(one, other):
    """Return -1, 0 or 1 for two fractions."""
    left, right = one[0] * other[1], other[0] * one[1]
    if left < right:
        return -1
    return 1 if left > right else 0


def lesser(one, other):
    """Return the lesser one of two fractions."""
    return one if order(one, other) < 0 else other


def total(fractions):
    """Return the sum of fractions."""
    result = ZERO
    for entry in fractions:
        result = added(result, entry)
    return result


def products(ones, others):
    """Return the sum of the products of two lists of fractions, place by place."""
    return total([multiplied(one, other) for one, other in zip(ones, others)])


def common(fractions):
    """Return the integers that fractions have above one common number below, and this number."""
    below = 1
    for entry in fractions:
        below = lcm(below, entry[1])
    return [entry[0] * (below // entry[1]) for entry in fractions], below


def lowest(integers):
    """Return the fractions with 1 below, as small as can be, in the proportion of integers that are not all 0."""
    divisor = 0
    for integer in integers:
        divisor = gcd(divisor, integer)
    return [(integer // divisor, 1) for integer in integers]
