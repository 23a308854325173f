"""What a table comes to if it is done again and again."""

from math import gcd, lcm

from caskyears.anew import built_anew
from caskyears.elimination import solved
from caskyears.errors import InvalidFraction, TooMany
from caskyears.fills import check_cellar
from caskyears.fractions import ONE, ZERO, is_above_zero, lessened, multiplied, total
from caskyears.grids import grid_of, power_of, product_of, rows_of, still_grid
from caskyears.recipes import check_as_many, left_by_grid
from caskyears.tables import check_rounds, check_table, column_sums

MOST_ROUNDS = 300
MOST_DOUBLINGS = 8


def after(table, rounds, cellar):
    """Return the cellar behind so many rounds."""
    check_table(table)
    check_rounds(rounds)
    check_cellar(cellar)
    check_as_many(table, cellar)
    return left_by_grid(power_of(grid_of(table), rounds), cellar)


def rings(table):
    """Return the ascending list of the ascending tuples of casks that share wine and let none of it out."""
    check_table(table)
    return rings_of(table)


def period(table):
    """Return the least number of rounds in which the tables come round again."""
    check_table(table)
    return period_of(table)


def limits(table):
    """Return the tuple of the tables to which those of so many rounds, period by period, come near."""
    check_table(table)
    found = [first_limit(table)]
    for _ in range(period_of(table) - 1):
        found.append(rows_of(product_of(grid_of(table), grid_of(found[-1]))))
    return tuple(found)


def near(table, nearness):
    """Return the least number of rounds from which on no column is farther from that of its limit than told."""
    check_table(table)
    if not is_above_zero(nearness):
        raise InvalidFraction(built_anew(nearness))
    gap = first_gap_grid(table)
    if is_near(gap, nearness):
        return 0
    # The gap never grows, so the last number of rounds behind which it is too great is found by doublings.
    doubled = [grid_of(table)]
    while len(doubled) <= MOST_DOUBLINGS and not is_near(product_of(doubled[-1], gap), nearness):
        doubled.append(product_of(doubled[-1], doubled[-1]))
    reached = 0
    for at in reversed(range(len(doubled))):
        if reached + (1 << at) <= MOST_ROUNDS:
            farther = product_of(doubled[at], gap)
            if not is_near(farther, nearness):
                gap, reached = farther, reached + (1 << at)
    if reached == MOST_ROUNDS:
        raise TooMany(MOST_ROUNDS)
    return reached + 1


def first_gap_grid(table):
    """Return the grid of the table of no rounds less its limit.

    The table of more rounds less its limit is the table of so many rounds times this.
    """
    still = rows_of(still_grid(len(table)))
    limit = first_limit(table)
    return grid_of([[lessened(one, other) for one, other in zip(row, its)] for row, its in zip(still, limit)])


def is_near(gap, nearness):
    """Return whether in no column of a grid the numbers without signs add up to more than the nearness."""
    rows, below = gap
    farthest = max([sum([abs(row[at]) for row in rows]) for at in range(len(rows))])
    return farthest * nearness[1] <= nearness[0] * below


def reach_of(table):
    """Return rows of True and False: whether wine of the cask of the row comes into the other cask by some rounds."""
    casks = range(len(table))
    reach = [[table[goal][source] != ZERO for goal in casks] for source in casks]
    for middle in casks:
        ways = reach[middle]
        reach = [[goes or (row[middle] and further) for goes, further in zip(row, ways)] for row in reach]
    return reach


def rings_of(table):
    """Return the rings of what is known to be a table."""
    reach, sums = reach_of(table), column_sums(table)
    found = []
    for cask in range(len(table)):
        reached = [other for other in range(len(table)) if reach[cask][other]]
        closed = all([reach[other][cask] and sums[other] == ONE for other in reached])
        if reached and closed and reached[0] == cask:
            found.append(tuple(reached))
    return found


def period_of(table):
    """Return the period of what is known to be a table."""
    result = 1
    for ring in rings_of(table):
        result = lcm(result, ring_period(table, ring))
    return result


def ring_period(table, ring):
    """Return the greatest number that divides the rounds of each way from a cask of the ring to itself."""
    rounds, line, divisor = {ring[0]: 0}, [ring[0]], 0
    while line:
        source = line.pop()
        for goal in ring:
            if table[goal][source] != ZERO:
                if goal not in rounds:
                    rounds[goal] = rounds[source] + 1
                    line.append(goal)
                divisor = gcd(divisor, rounds[source] + 1 - rounds[goal])
    return divisor


def first_limit(table):
    """Return the table to which those of a multiple of the period of rounds come near."""
    whole = rows_of(power_of(grid_of(table), period_of(table)))
    groups = rings_of(whole)
    casks = range(len(table))
    limit = [[ZERO for column in casks] for row in casks]
    for ring in groups:
        steady = steady_shares(whole, ring)
        into = shares_into(whole, ring, groups)
        for cask, share in zip(ring, steady):
            limit[cask] = [multiplied(share, comes) for comes in into]
    return tuple([tuple(row) for row in limit])


def steady_shares(table, ring):
    """Return the list of the shares, for each cask of a ring, that the table leaves as they are."""
    rows = [[lessened(table[goal][source], ONE if goal == source else ZERO) for source in ring] for goal in ring]
    return solved(rows + [[ONE] * len(ring)], [ZERO] * len(ring) + [ONE])[1]


def shares_into(table, ring, groups):
    """Return the list of the shares, for each cask, of what is in it that comes into a ring in the end."""
    outside = [cask for cask in range(len(table)) if not any([cask in group for group in groups])]
    found = [ONE if cask in ring else ZERO for cask in range(len(table))]
    if outside:
        rows = [[lessened(ONE if to == at else ZERO, table[to][at]) for to in outside] for at in outside]
        straight = [total([table[to][at] for to in ring]) for at in outside]
        for cask, share in zip(outside, solved(rows, straight)[1]):
            found[cask] = share
    return found
