"""Levelling casks in pairs."""

from itertools import combinations

from caskyears.anew import built_anew
from caskyears.errors import InvalidDeed, InvalidFraction, InvalidNumber
from caskyears.fractions import common, is_from_zero, is_integer, reduced
from caskyears.recipes import table_by_marks
from caskyears.tables import check_casks

HALF = (1, 2)
MOST_TO_COUNT = 10**59
MOST_IN_GAP = 4


def levelled(casks, pairs):
    """Return the table of a list of levellings."""
    check_casks(casks)
    check_pairs(casks, pairs)
    return level_table(casks, pairs)


def is_level(casks, pairs):
    """Return whether behind a list of levellings all casks have the same of all cellars."""
    check_casks(casks)
    check_pairs(casks, pairs)
    return evens_out(casks, pairs)


def levellings(casks):
    """Return the fewest levellings behind which all casks have the same, None if there are none."""
    if not 1 <= casks <= MOST_TO_COUNT:
        raise InvalidNumber(casks)
    return fewest_pairs(casks)


def level_pairs(casks):
    """Return the fewest pairs behind whose levellings all casks have the same, None if there are none."""
    check_casks(casks)
    if fewest_pairs(casks) is None:
        return None
    pairs, apart = [], 1
    while apart < casks:
        # Groups of so many casks are alike by now: each cask is levelled with its fellow in the next group.
        pairs.extend([(cask, cask + apart) for cask in range(casks) if cask // apart % 2 == 0])
        apart = 2 * apart
    return pairs


def level_holds(casks, value):
    """Return whether any object is a list of the fewest pairs behind whose levellings all casks have the same."""
    check_casks(casks)
    if not isinstance(value, list) or len(value) != fewest_pairs(casks):
        return False
    return all([is_pair(pair, casks) for pair in value]) and evens_out(casks, value)


def least_gap(amounts, many):
    """Return the least difference of the greatest and the least amount behind at most so many levellings."""
    for entry in amounts:
        if not is_from_zero(entry):
            raise InvalidFraction(built_anew(entry))
    if not 0 <= many <= MOST_IN_GAP:
        raise InvalidNumber(many)
    whole, below = common(amounts)
    # Halves stay integers if everything is taken as often as it can be halved.
    states = {tuple(sorted([number << many for number in whole])): True}
    for _ in range(many):
        states = {state: True for ahead in states for state in [ahead] + levelled_once(ahead)}
    gaps = [max(state, default=0) - min(state, default=0) for state in states]
    return reduced(min(gaps), below << many)


def check_pairs(casks, pairs):
    """Raise an error for the first entry that is no pair of unlike ones of so many casks."""
    for pair in pairs:
        if not is_pair(pair, casks):
            raise InvalidDeed(built_anew(pair))


def is_pair(value, casks):
    """Return whether any object is a pair of unlike ones of so many casks."""
    if not isinstance(value, tuple) or len(value) != 2 or not all([is_integer(cask) for cask in value]):
        return False
    return 0 <= min(value) and max(value) < casks and value[0] != value[1]


def level_table(casks, pairs):
    """Return the table of levellings that are known to be some of so many casks."""
    return table_by_marks([("swap", first, second, HALF) for first, second in pairs], casks)


def evens_out(casks, pairs):
    """Return whether levellings that are known to be some give each cask the same."""
    table = level_table(casks, pairs)
    return all([row == table[0] for row in table])


def fewest_pairs(casks):
    """Return the fewest levellings that make so many casks alike, None if there are none."""
    doublings = casks.bit_length() - 1
    return casks // 2 * doublings if casks == 1 << doublings else None


def levelled_once(amounts):
    """Return the list of the ascending tuples of amounts behind each one levelling."""
    found = []
    for first, second in combinations(range(len(amounts)), 2):
        middle = (amounts[first] + amounts[second]) // 2
        others = [amount for at, amount in enumerate(amounts) if at not in (first, second)]
        found.append(tuple(sorted(others + [middle, middle])))
    return found
