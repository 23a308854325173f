"""Amounts of one kind in casks of one size: what exchanges lead to, and the fewest of them."""

from caskyears.anew import built_anew
from caskyears.blocks import gap_of, most_blocks
from caskyears.deeds import has_casks, is_deed, stages_of
from caskyears.errors import InvalidFill, Unlike
from caskyears.exchanging import exchanges_to
from caskyears.fills import fill_from, size_of
from caskyears.fractions import ONE, common, is_from_zero, reduced, total

MOST_AMOUNTS = 7


def is_more_even(one, other):
    """Return whether exchanges lead from the one amounts to the other ones."""
    return first_gap(one, other) is None


def first_gap(one, other):
    """Return None if exchanges lead to the other amounts, 0 if the sums are unlike, else where they are too uneven."""
    check_both(one, other)
    mine, theirs, _ = whole_of(one, other)
    return gap_of(mine, theirs)


def exchanges(one, other):
    """Return a list of exchanges, fewer than casks, that lead to the other amounts, None if there is none."""
    check_both(one, other)
    mine, theirs, _ = whole_of(one, other)
    if gap_of(mine, theirs) is not None:
        return None
    return deeds_for(mine, [(sorted(mine, reverse=True), sorted(theirs, reverse=True))])


def fewest(one, other):
    """Return the least number of exchanges that lead to the other amounts, None if none do."""
    blocks = blocks_of(one, other)
    return None if blocks is None else len(one) - len(blocks)


def fewest_exchanges(one, other):
    """Return a list of the fewest exchanges that lead to the other amounts, None if there is none."""
    blocks = blocks_of(one, other)
    return None if blocks is None else deeds_for(whole_of(one, other)[0], blocks)


def exchanges_hold(one, other, most, value):
    """Return whether any object is a list of at most so many exchanges that lead to the other amounts."""
    check_both(one, other)
    if not isinstance(value, list) or len(value) > most:
        return False
    if not all([is_deed(deed) and deed[0] == "swap" and has_casks(deed, len(one)) for deed in value]):
        return False
    behind = stages_of(tuple([fill_from({"a": entry}) for entry in one]), value)[-1]
    return sorted([size_of(fill) for fill in behind]) == sorted(other)


def meet(one, other):
    """Return the falling amounts to which both lead and which lead to all others of which that is so."""
    mine, theirs, below = sums_of(one, other)
    least = [min(pair) for pair in zip(mine, theirs)]
    return tuple([reduced(least[at + 1] - least[at], below) for at in range(len(one))])


def join(one, other):
    """Return the falling amounts which lead to both and to which all others lead of which that is so."""
    mine, theirs, below = sums_of(one, other)
    corners = bent_over([max(pair) for pair in zip(mine, theirs)])
    amounts = []
    for (start, low), (end, high) in zip(corners, corners[1:]):
        amounts.extend([reduced(high - low, below * (end - start)) for _ in range(start, end)])
    return tuple(amounts)


def are_amounts(value):
    """Return whether any object is amounts of one kind in casks of one size."""
    if not isinstance(value, tuple) or not 1 <= len(value) <= MOST_AMOUNTS:
        return False
    return all([is_from_zero(entry) for entry in value])


def check_both(one, other):
    """Raise an error for what are no two amounts of as many casks."""
    if not are_amounts(one):
        raise InvalidFill(built_anew(one))
    if not are_amounts(other):
        raise InvalidFill(built_anew(other))
    if len(one) != len(other):
        raise Unlike(len(other))


def whole_of(one, other):
    """Return the integers of both amounts above one common number below, and this number."""
    numbers, below = common(one + other)
    return numbers[: len(one)], numbers[len(one) :], below


def sums_of(one, other):
    """Return the lists of the sums of the greatest amounts, from no amount to all, as integers, and what is below."""
    check_both(one, other)
    if total(one) != total(other):
        raise Unlike(total(other))
    mine, theirs, below = whole_of(one, other)
    return greatest_sums(mine), greatest_sums(theirs), below


def greatest_sums(numbers):
    """Return the list of the sums of no integer, of the greatest one, of the two greatest and so on."""
    falling = sorted(numbers, reverse=True)
    return [sum(falling[:many]) for many in range(len(falling) + 1)]


def bent_over(heights):
    """Return the corners (place, height) of the lowest line above the heights that nowhere bends upwards."""
    corners = []
    for at, height in enumerate(heights):
        while len(corners) > 1 and is_bent_up(corners[-2], corners[-1], (at, height)):
            corners.pop()
        corners.append((at, height))
    return corners


def is_bent_up(first, second, third):
    """Return whether the second of three points lies on or below the line from the first to the third one."""
    rise = (second[1] - first[1]) * (third[0] - first[0])
    return rise <= (third[1] - first[1]) * (second[0] - first[0])


def blocks_of(one, other):
    """Return the most blocks in which the one amounts lead to the other ones, None if they do not."""
    check_both(one, other)
    mine, theirs, _ = whole_of(one, other)
    return None if gap_of(mine, theirs) is not None else most_blocks(mine, theirs)


def deeds_for(numbers, blocks):
    """Return the list of exchanges that lead, block by block, from the numbers in the casks to those of the blocks."""
    waiting = {}
    for cask, number in enumerate(numbers):
        waiting.setdefault(number, []).append(cask)
    deeds = []
    for ones, others in blocks:
        casks = [waiting[number].pop() for number in ones]
        steps = exchanges_to([ONE] * len(casks), [(number, 1) for number in ones], [(number, 1) for number in others])
        deeds.extend([("swap", casks[more], casks[fewer], share) for more, fewer, share in steps])
    return deeds
