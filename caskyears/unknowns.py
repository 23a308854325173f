"""Shares that are not known, and what tastes of mixed glasses tell of them."""

from caskyears.anew import built_anew
from caskyears.deeds import check_cask
from caskyears.elimination import rank_of
from caskyears.errors import BadTold
from caskyears.fractions import ONE, ZERO, added, is_fraction, is_from_zero, is_share, lessened, multiplied, negative
from caskyears.fractions import products, total
from caskyears.inequalities import nothing, outcome
from caskyears.tables import check_casks


def shares_of(number, tastes):
    """Return the tuple of the shares of all casks if just one fits, None otherwise."""
    check_tastes(number, tastes)
    ends = ends_of(number, tastes)
    if ends is None or not all([least == most for least, most in ends]):
        return None
    return tuple([least for least, _ in ends])


def some_shares(number, tastes):
    """Return shares that fit, None if none do."""
    check_tastes(number, tastes)
    found = outcome(system_of(number, tastes), (ZERO,) * number)
    return None if found[0] == "none" else tuple(found[2])


def refusal(number, tastes):
    """Return a tuple (of tastes, of lows, of highs) that shows that no shares fit, None if some do."""
    check_tastes(number, tastes)
    found = outcome(system_of(number, tastes), (ZERO,) * number)
    if found[0] != "none":
        return None
    low, high, told = found[1][:number], found[1][number : 2 * number], found[1][2 * number :]
    signed = [lessened(told[2 * at], told[2 * at + 1]) for at in range(len(tastes))]
    return tuple(signed), tuple(low), tuple(high)


def refusal_shows(number, tastes, value):
    """Return whether any object is such a tuple that shows that no shares fit."""
    check_tastes(number, tastes)
    if not isinstance(value, tuple) or len(value) != 3 or not all([isinstance(entry, tuple) for entry in value]):
        return False
    told, low, high = value
    if len(told) != len(tastes) or len(low) != number or len(high) != number:
        return False
    if not all([is_fraction(entry) for entry in told]) or not all([is_from_zero(entry) for entry in low + high]):
        return False
    for cask in range(number):
        sums = products(told, [parts[cask] for parts, _ in tastes])
        if added(lessened(sums, low[cask]), high[cask]) != ZERO:
            return False
    return added(products(told, [amount_told(taste) for taste in tastes]), total(high))[0] < 0


def between(number, tastes, cask):
    """Return the tuple of the least and the greatest share of a cask over all that fit, None if none do."""
    check_tastes(number, tastes)
    check_cask(cask, number)
    return ends_at(system_of(number, tastes), cask)


def open_casks(number, tastes):
    """Return the ascending list of the casks that have unlike shares in some that fit."""
    check_tastes(number, tastes)
    ends = ends_of(number, tastes)
    return [] if ends is None else [cask for cask, (least, most) in enumerate(ends) if least != most]


def more_needed(number, tastes):
    """Return the least number of further glasses that surely leave one tuple of shares alone."""
    check_tastes(number, tastes)
    return number - rank_of(known_rows(number, tastes))


def next_glasses(number, tastes):
    """Return a tuple of the parts of so many further glasses, each of one cask."""
    check_tastes(number, tastes)
    rows, found = known_rows(number, tastes), []
    for cask in range(number):
        if rank_of(rows + [one_part(number, cask)]) > rank_of(rows):
            found.append(one_part(number, cask))
            rows = rows + found[-1:]
    return tuple(found)


def is_taste(value, number):
    """Return whether any object is a tuple of parts of so many casks, not all 0, and a share."""
    if not isinstance(value, tuple) or len(value) != 2 or not isinstance(value[0], tuple) or len(value[0]) != number:
        return False
    if not all([is_from_zero(entry) for entry in value[0]]) or value[0] == (ZERO,) * number:
        return False
    return is_share(value[1])


def check_tastes(number, tastes):
    """Raise an error for a number of casks that there cannot be, and for what are no tastes of so many."""
    check_casks(number)
    if not isinstance(tastes, tuple) or not all([is_taste(entry, number) for entry in tastes]):
        raise BadTold(built_anew(tastes))


def one_part(number, cask):
    """Return the parts of a glass of one cask alone."""
    return tuple([ONE if at == cask else ZERO for at in range(number)])


def amount_told(taste):
    """Return how much of the kind is in the glass of a taste."""
    parts, share = taste
    return multiplied(share, total(parts))


def system_of(number, tastes):
    """Return the system of all shares that fit: from 0, to 1, and twice each taste, as at most and as at least."""
    rows = [(tuple([negative(entry) for entry in one_part(number, cask)]), ZERO) for cask in range(number)]
    rows.extend([(one_part(number, cask), ONE) for cask in range(number)])
    for taste in tastes:
        rows.append((taste[0], amount_told(taste)))
        rows.append((tuple([negative(entry) for entry in taste[0]]), negative(amount_told(taste))))
    return number, tuple(rows)


def ends_at(system, cask):
    """Return the tuple of the least and the greatest share of a cask, None if no shares fit."""
    low = outcome(system, tuple([negative(entry) for entry in one_part(system[0], cask)]))
    if low[0] == "none":
        return None
    return negative(low[1]), outcome(system, one_part(system[0], cask))[1]


def ends_of(number, tastes):
    """Return the list of the least and greatest shares of all casks, None if no shares fit."""
    system = system_of(number, tastes)
    if outcome(system, nothing(system))[0] == "none":
        return None
    return [ends_at(system, cask) for cask in range(number)]


def known_rows(number, tastes):
    """Return the list of the parts of all tastes, and of each cask alone of which but one share fits.

    That no shares fit is an error.
    """
    ends = ends_of(number, tastes)
    if ends is None:
        raise BadTold(built_anew(tastes))
    return rows_known(number, tastes, ends)


def rows_known(number, tastes, ends):
    """Return these rows by the least and the greatest shares; what is open are the ways that give 0 in all of them."""
    fixed = [one_part(number, cask) for cask, (least, most) in enumerate(ends) if least == most]
    return [(ZERO,) * number] + [parts for parts, _ in tastes] + fixed
