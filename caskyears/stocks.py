"""Stocks: what is in places, as integers above common numbers, so that long stories do not reduce every fraction.

A stock is a tuple (places, below, base, limit, scales). A place is a tuple of a dict of integers above 0, by kinds,
and a number that divides the one below the stock. An amount is the integer above this number times the scale of its
kind. Each prime of the number below divides the base. If it has more bits than the limit, all that it has in common
with the integers is taken out. No dict in a stock is ever changed, so stocks share them.
"""

from math import gcd, lcm

from caskyears.deeds import share_gone
from caskyears.fills import joined
from caskyears.fractions import ONE, ZERO, lessened, reduced, reduced_by
from caskyears.grids import grid_of
from caskyears.tables import column_sums
from caskyears.yearly import step_of

FIRST_LIMIT = 2000


def stock_of(fills):
    """Return the stock of a tuple of fills."""
    scales = {}
    for fill in fills:
        for kind, much in fill:
            scales[kind] = lcm(scales.get(kind, 1), much[1])
    return tuple([(integers_of(part, scales), 1) for part in fills]), 1, 1, FIRST_LIMIT, scales


def integers_of(fill, scales):
    """Return the dict of the integers of a fill above the scales of its kinds."""
    return {kind: much[0] * (scales[kind] // much[1]) for kind, much in fill}


def live_stock(fills):
    """Return the stock of a cellar with two places more: of all that left, and of all that was put in, at first too."""
    return stock_of(fills + ((), joined(fills)))


def fill_at(stock, place):
    """Return the fill of what is in a place."""
    return part_at(stock, place, ONE)


def fills_in(stock, casks):
    """Return the tuple of the fills of the first places."""
    return tuple([fill_at(stock, cask) for cask in range(casks)])


def part_at(stock, place, share):
    """Return the fill of a share of what is in a place."""
    if share == ZERO:
        return ()
    amounts, own = stock[0][place]
    below, base, scales = own * share[1], lcm(stock[2], share[1]), stock[4]
    kinds = sorted(list(amounts))
    bases = [lcm(base, scales[kind]) for kind in kinds]
    return tuple([(kind, reduced_by(amounts[kind] * share[0], below * scales[kind], primes))
        for kind, primes in zip(kinds, bases)])


def wholes_at(stock, place):
    """Return the dict, by kinds, of integers in the proportion of the amounts in a place."""
    amounts, scales, common = stock[0][place][0], stock[4], 1
    for kind in amounts:
        common = lcm(common, scales[kind])
    return {kind: number * (common // scales[kind]) for kind, number in amounts.items()}


def shares_at(stock, place):
    """Return the ascending tuple of the kinds with their shares in a place."""
    wholes = wholes_at(stock, place)
    every = sum(list(wholes.values()))
    return tuple([(kind, reduced(wholes[kind], every)) for kind in sorted(list(wholes))])


def fits_at(stock, place, rule):
    """Return whether a rule fits what is in a place."""
    kinds, sense, share = rule
    wholes = wholes_at(stock, place)
    counted = sum([wholes.get(kind, 0) for kind in kinds])
    gap = counted * share[1] - share[0] * sum(list(wholes.values()))
    return gap >= 0 if sense == "least" else gap <= 0


def are_alike(one, other, casks):
    """Return whether two stocks have the same in the first places."""
    return all([is_alike(one, other, cask) for cask in range(casks)])


def is_alike(one, other, place):
    """Return whether two stocks have the same in a place."""
    amounts, own = one[0][place]
    others, below = other[0][place]
    if sorted(list(amounts)) != sorted(list(others)):
        return False
    scale, other_scale = one[4], other[4]
    return all([amounts[kind] * below * other_scale[kind] == others[kind] * own * scale[kind] for kind in amounts])


def amounts_above(place, below):
    """Return the dict of the integers of a place above another number, a multiple of its own."""
    amounts, own = place
    if own == below:
        return amounts
    factor = below // own
    return {kind: number * factor for kind, number in amounts.items()}


def combined(weights, parts):
    """Return the dict of the sums of dicts of integers, each times its weight, those of 0 left out."""
    amounts = {}
    for weight, part in zip(weights, parts):
        if weight != 0:
            for kind, number in part.items():
                amounts[kind] = amounts.get(kind, 0) + weight * number
    return amounts


def mixed(stock, at, grid, primes):
    """Return the stock behind a table of shares for the places at these indexes alone.

    It is a grid, and each prime of the number below it divides the number primes.
    """
    places, below, base, limit, scales = stock
    rows, factor = grid
    parts, found = [amounts_above(places[place], below) for place in at], list(places)
    for place, row in zip(at, rows):
        found[place] = (combined(row, parts), below * factor)
    return trimmed((tuple(found), below * factor, lcm(base, primes), limit, scales))


def put(stock, at, fill):
    """Return the stock with a fill put into each of the places at these indexes."""
    for kind, much in fill:
        stock = with_scale(stock, kind, much[1])
    places, below, base, limit, scales = stock
    part, found = {kind: much[0] * (below * scales[kind] // much[1]) for kind, much in fill}, list(places)
    for place in at:
        found[place] = (combined([1, 1], [amounts_above(places[place], below), part]), below)
    return tuple(found), below, base, limit, scales


def with_scale(stock, kind, number):
    """Return the stock with a scale of a kind such that there are integers for amounts above a number."""
    places, below, base, limit, scales = stock
    factor = number // gcd(number, below * scales.get(kind, 1))
    if factor == 1 and kind in scales:
        return stock
    longer = {name: scale * factor if name == kind else scale for name, scale in scales.items()}
    longer[kind] = longer.get(kind, factor)
    return tuple([scaled_up(place, kind, factor) for place in places]), below, base, limit, longer


def scaled_up(place, kind, factor):
    """Return a place in which the integer of a kind is so many times as great."""
    amounts, own = place
    if kind not in amounts:
        return place
    return {name: number * factor if name == kind else number for name, number in amounts.items()}, own


def trimmed(stock):
    """Return the stock without what all its integers have in common, if the number below has come to the limit.

    The next limit is twice as far, so that this happens seldom.
    """
    places, below, base, limit, scales = stock
    if below.bit_length() <= limit:
        return stock
    wholes, shared = [amounts_above(place, below) for place in places], below
    for amounts in wholes:
        shared = shared_with(amounts, shared)
    if shared > 1:
        below = below // shared
        places = tuple([(divided_by(amounts, shared), below) for amounts in wholes])
    return places, below, base, max(FIRST_LIMIT, 2 * below.bit_length()), scales


def shared_with(amounts, number):
    """Return the greatest common divisor of a number and all integers of a dict."""
    shared = number
    for entry in amounts.values():
        # Mostly nothing is shared, and then no further integer has to be looked at.
        shared = gcd(entry, shared) if shared > 1 else 1
    return shared


def divided_by(amounts, shared):
    """Return the dict of integers, each divided by a number that divides it."""
    return {kind: number // shared for kind, number in amounts.items()}


def behind_entry(stock, entry):
    """Return the stock of a living cellar behind a deed, a year or a season, known to be one of its casks."""
    word, gone = entry[0], len(stock[0]) - 2
    if word == "season":
        return behind_table(stock, [[share if at == cask else ZERO for at in range(gone)]
            for cask, share in enumerate(entry[1])])
    if word == "year":
        return behind_year(stock, entry[1], entry[2])
    if word == "add":
        return put(stock, (entry[1], gone + 1), entry[2])
    above, below = entry[-1] if word in ("move", "swap") else share_gone(entry)
    goal = entry[2] if word in ("move", "swap") else gone
    back = above if word == "swap" else 0
    return mixed(stock, (entry[1], goal), ([[below - above, back], [above, below - back]], below), below)


def behind_table(stock, rows):
    """Return the stock of a living cellar behind a table, of which what lacks in a column has left."""
    casks = len(rows)
    lacks = [lessened(ONE, column) for column in column_sums(rows)]
    grid = grid_of([list(row) + [ZERO] for row in rows] + [lacks + [ONE]])
    return mixed(stock, tuple(range(casks + 1)), grid, grid[1])


def behind_year(stock, yearly, kind):
    """Return the stock of a living cellar behind a year of a yearly cellar, whose new wine is of a kind."""
    stock = behind_table(stock, step_of(yearly))
    for cask, much in enumerate(yearly[1]):
        if much != ZERO:
            stock = put(stock, (cask, len(stock[0]) - 1), ((kind, much),))
    return stock


def gone_by(stock, deed):
    """Return the fill that leaves a living cellar by a draw or a keep, () by another deed."""
    return part_at(stock, deed[1], share_gone(deed)) if deed[0] in ("draw", "keep") else ()
