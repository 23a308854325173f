"""Shares that are not known, and what tastes of mixed glasses tell of them."""

from caskyears.anew import built_anew
from caskyears.deeds import check_cask
from caskyears.elimination import rank_of, solved
from caskyears.errors import BadTold
from caskyears.fractions import ONE, ZERO, added, is_fraction, is_from_zero, is_share, lessened, multiplied, negative
from caskyears.fractions import products, total
from caskyears.inequalities import nothing, outcome
from caskyears.tables import check_casks


def shares_of(number, tastes):
    """Return the tuple of the shares of all casks if just one fits, None otherwise."""
    check_tastes(number, tastes)
    ends = ends_of(number, tastes)
    if ends is None or not all([least == most for least, most in ends]):
        return None
    return tuple([least for least, _ in ends])


def some_shares(number, tastes):
    """Return shares that fit, None if none do."""
    check_tastes(number, tastes)
    return point_for(number, tastes)


def refusal(number, tastes):
    """Return a tuple (of tastes, of lows, of highs) that shows that no shares fit, None if some do."""
    check_tastes(number, tastes)
    start, ways = solutions_of(number, tastes)
    if start is None:
        return tuple(ways), (ZERO,) * number, (ZERO,) * number
    system = system_of(start, ways)
    found = outcome(system, nothing(system))
    if found[0] != "none":
        return None
    low, high = found[1][:number], found[1][number:]
    # Along the ways the lows and the highs come to 0, so the tastes make what is left of them.
    rows = [[parts[cask] for parts, _ in tastes] + [ZERO] for cask in range(number)]
    told = solved(rows, [lessened(less, more) for less, more in zip(low, high)])[1]
    return tuple(told[:-1]), tuple(low), tuple(high)


def refusal_shows(number, tastes, value):
    """Return whether any object is such a tuple that shows that no shares fit."""
    check_tastes(number, tastes)
    if not isinstance(value, tuple) or len(value) != 3 or not all([isinstance(entry, tuple) for entry in value]):
        return False
    told, low, high = value
    if len(told) != len(tastes) or len(low) != number or len(high) != number:
        return False
    if not all([is_fraction(entry) for entry in told]) or not all([is_from_zero(entry) for entry in low + high]):
        return False
    for cask in range(number):
        sums = products(told, [parts[cask] for parts, _ in tastes])
        if added(lessened(sums, low[cask]), high[cask]) != ZERO:
            return False
    return added(products(told, [amount_told(taste) for taste in tastes]), total(high))[0] < 0


def between(number, tastes, cask):
    """Return the tuple of the least and the greatest share of a cask over all that fit, None if none do."""
    check_tastes(number, tastes)
    check_cask(cask, number)
    return ends_for(number, tastes, cask)


def open_casks(number, tastes):
    """Return the ascending list of the casks that have unlike shares in some that fit."""
    check_tastes(number, tastes)
    ends = ends_of(number, tastes)
    return [] if ends is None else [cask for cask, (least, most) in enumerate(ends) if least != most]


def more_needed(number, tastes):
    """Return the least number of further glasses that surely leave one tuple of shares alone."""
    check_tastes(number, tastes)
    return number - rank_of(known_rows(number, tastes))


def next_glasses(number, tastes):
    """Return a tuple of the parts of so many further glasses, each of one cask."""
    check_tastes(number, tastes)
    rows, found = known_rows(number, tastes), []
    for cask in range(number):
        if rank_of(rows + [one_part(number, cask)]) > rank_of(rows):
            found.append(one_part(number, cask))
            rows = rows + found[-1:]
    return tuple(found)


def is_taste(value, number):
    """Return whether any object is a tuple of parts of so many casks, not all 0, and a share."""
    if not isinstance(value, tuple) or len(value) != 2 or not isinstance(value[0], tuple) or len(value[0]) != number:
        return False
    if not all([is_from_zero(entry) for entry in value[0]]) or value[0] == (ZERO,) * number:
        return False
    return is_share(value[1])


def check_tastes(number, tastes):
    """Raise an error for a number of casks that there cannot be, and for what are no tastes of so many."""
    check_casks(number)
    if not isinstance(tastes, tuple) or not all([is_taste(entry, number) for entry in tastes]):
        raise BadTold(built_anew(tastes))


def one_part(number, cask):
    """Return the parts of a glass of one cask alone."""
    return tuple([ONE if at == cask else ZERO for at in range(number)])


def amount_told(taste):
    """Return how much of the kind is in the glass of a taste."""
    parts, share = taste
    return multiplied(share, total(parts))


def solutions_of(number, tastes):
    """Return one list of shares of any size that solves the equations of tastes, and the list of ways to all others.

    If there is none, None comes first, and then a factor for each taste that shows it.
    """
    amounts = [amount_told(taste) for taste in tastes]
    rows = [list(parts) for parts, _ in tastes]
    found = solved(rows + [[ZERO] * number], amounts + [ZERO])
    if found[0] != "none":
        return found[1], found[2] if found[0] == "many" else []
    factors = found[1][:-1]
    return None, [negative(entry) for entry in factors] if products(factors, amounts)[0] > 0 else factors


def system_of(start, ways):
    """Return the system whose unknowns tell how far to go along each way from a start; all shares are from 0 to 1."""
    rows = []
    for cask, share in enumerate(start):
        rows.append((tuple([negative(way[cask]) for way in ways]), share))
    for cask, share in enumerate(start):
        rows.append((tuple([way[cask] for way in ways]), lessened(ONE, share)))
    return len(ways), tuple(rows)


def point_for(number, tastes):
    """Return the tuple of some shares that fit, None if none do."""
    start, ways = solutions_of(number, tastes)
    if start is None:
        return None
    system = system_of(start, ways)
    found = outcome(system, nothing(system))
    if found[0] == "none":
        return None
    steps = [products(found[2], [way[cask] for way in ways]) for cask in range(number)]
    return tuple([added(share, step) for share, step in zip(start, steps)])


def ends_for(number, tastes, cask):
    """Return the tuple of the least and the greatest share of a cask, None if no shares fit."""
    start, ways = solutions_of(number, tastes)
    return None if start is None else ends_at(start, ways, cask)


def ends_at(start, ways, cask):
    """Return the tuple of the least and the greatest share of a cask along ways from a start, None if none fit."""
    system = system_of(start, ways)
    aim = tuple([way[cask] for way in ways])
    low = outcome(system, tuple([negative(entry) for entry in aim]))
    if low[0] == "none":
        return None
    return lessened(start[cask], low[1]), added(start[cask], outcome(system, aim)[1])


def ends_of(number, tastes):
    """Return the list of the least and greatest shares of all casks, None if no shares fit."""
    start, ways = solutions_of(number, tastes)
    if start is None or outcome(system_of(start, ways), (ZERO,) * len(ways))[0] == "none":
        return None
    return [ends_at(start, ways, cask) for cask in range(number)]


def known_rows(number, tastes):
    """Return the list of the parts of all tastes, and of each cask alone of which but one share fits.

    That no shares fit is an error.
    """
    ends = ends_of(number, tastes)
    if ends is None:
        raise BadTold(built_anew(tastes))
    return rows_known(number, tastes, ends)


def rows_known(number, tastes, ends):
    """Return these rows by the least and the greatest shares; what is open are the ways that give 0 in all of them."""
    fixed = [one_part(number, cask) for cask, (least, most) in enumerate(ends) if least == most]
    return [(ZERO,) * number] + [parts for parts, _ in tastes] + fixed
