"""Casks of unlike sizes, all full, and one kind in them: the bent lines that tell what can come of what."""

from caskyears.anew import built_anew
from caskyears.errors import InvalidFill, Unlike
from caskyears.exchanging import exchanges_to
from caskyears.fills import MOST_CASKS
from caskyears.fractions import ONE, ZERO, added, common, divided, is_above_zero, is_share, lessened, lesser
from caskyears.fractions import multiplied, order, products, total
from caskyears.tables import column_sums, is_table


def curve(sizes, shares):
    """Return the list of the points (size, wine), the greatest shares first."""
    check_sizes(sizes)
    check_shares(sizes, shares)
    points, last = [(ZERO, ZERO)], None
    for cask in falling(shares):
        step, wine = sizes[cask], multiplied(sizes[cask], shares[cask])
        ahead = points.pop() if shares[cask] == last else points[-1]
        points.append((added(ahead[0], step), added(ahead[1], wine)))
        last = shares[cask]
    return points


def can_come(sizes, one, other):
    """Return whether some table without loss leads from the one to the other shares, each cask staying full."""
    return first_over(sizes, one, other) is None


def first_over(sizes, one, other):
    """Return None if a table leads to the other shares, else what shows that none does."""
    check_both(sizes, one, other)
    return why_not(sizes, one, other)


def table_for(sizes, one, other):
    """Return a table without loss that leads to the other shares, each cask staying full, None if there is none."""
    check_both(sizes, one, other)
    if why_not(sizes, one, other) is not None:
        return None
    return made_table(sizes, one, other)


def table_holds(sizes, one, other, value):
    """Return whether any object is a table without loss that leads to the other shares, each cask staying full."""
    check_both(sizes, one, other)
    if not is_table(value) or len(value) != len(sizes) or column_sums(value) != [ONE] * len(sizes):
        return False
    wines, goals = wine_in(sizes, one), wine_in(sizes, other)
    full = all([products(row, sizes) == much for row, much in zip(value, sizes)])
    return full and all([products(row, wines) == goal for row, goal in zip(value, goals)])


def are_sizes(value):
    """Return whether any object is a tuple of one to eight fractions above 0."""
    if not isinstance(value, tuple) or not 1 <= len(value) <= MOST_CASKS:
        return False
    return all([is_above_zero(entry) for entry in value])


def check_sizes(value):
    """Raise an error for what are no sizes."""
    if not are_sizes(value):
        raise InvalidFill(built_anew(value))


def check_shares(sizes, shares):
    """Raise an error for what are no shares, or not as many as the sizes."""
    if not isinstance(shares, tuple) or not all([is_share(entry) for entry in shares]):
        raise InvalidFill(built_anew(shares))
    if len(shares) != len(sizes):
        raise Unlike(len(shares))


def check_both(sizes, one, other):
    """Raise an error for what are no sizes and no two tuples of shares for them."""
    check_sizes(sizes)
    check_shares(sizes, one)
    check_shares(sizes, other)


def falling(shares):
    """Return the list of the casks, those with the greatest shares first."""
    whole, _ = common(shares)
    return sorted(range(len(shares)), key=lambda cask: -whole[cask])


def wine_in(sizes, shares):
    """Return the list of the wine in each cask."""
    return [multiplied(much, share) for much, share in zip(sizes, shares)]


def wine_beyond(sizes, shares, least):
    """Return the wine beyond a share, added up over the casks with a greater one."""
    above = [cask for cask in range(len(shares)) if order(shares[cask], least) > 0]
    return total([multiplied(sizes[cask], lessened(shares[cask], least)) for cask in above])


def why_not(sizes, one, other):
    """Return what first_over does for what is checked."""
    if products(sizes, one) != products(sizes, other):
        return ("sum",)
    # Between the shares of the one its wine beyond falls in a straight line, that of the other bends upwards only.
    for cask in reversed(falling(one)):
        if order(wine_beyond(sizes, other, one[cask]), wine_beyond(sizes, one, one[cask])) > 0:
            return "over", one[cask]
    return None


def pieces_of(sizes, one, other):
    """Return the list of the tuples (size, cask of the one, cask of the other) of all casks cut in pieces.

    Both are laid side by side, the greatest shares first, and cut where a cask of either ends.
    """
    pieces, mine, theirs = [], falling(one), falling(other)
    left, left_there = sizes[mine[0]], sizes[theirs[0]]
    while True:
        step = lesser(left, left_there)
        pieces.append((step, mine[0], theirs[0]))
        left, left_there = lessened(left, step), lessened(left_there, step)
        if left == ZERO:
            mine = mine[1:]
            if not mine:
                return pieces
            left = sizes[mine[0]]
        if left_there == ZERO:
            theirs = theirs[1:]
            left_there = sizes[theirs[0]]


def made_table(sizes, one, other):
    """Return a table that leads from the one to the other shares, which is known to be possible.

    The casks are cut into pieces, the pieces exchange, and then they are put together to the casks of the other.
    """
    pieces = pieces_of(sizes, one, other)
    parts = [piece[0] for piece in pieces]
    casks = range(len(sizes))
    rows = [[divided(much, sizes[cask]) if cask == mine else ZERO for cask in casks] for much, mine, _ in pieces]
    steps = exchanges_to(parts, [one[piece[1]] for piece in pieces], [other[piece[2]] for piece in pieces])
    for more, fewer, volume in steps:
        goes = [multiplied(divided(volume, parts[more]), entry) for entry in rows[more]]
        comes = [multiplied(divided(volume, parts[fewer]), entry) for entry in rows[fewer]]
        rows[more] = swapped(rows[more], goes, comes)
        rows[fewer] = swapped(rows[fewer], comes, goes)
    together = [[row for row, piece in zip(rows, pieces) if piece[2] == cask] for cask in casks]
    return tuple([tuple([total([row[at] for row in group]) for at in casks]) for group in together])


def swapped(row, goes, comes):
    """Return the row less what goes and with what comes."""
    return [added(lessened(entry, out), back) for entry, out, back in zip(row, goes, comes)]
