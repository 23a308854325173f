"""Falling integers that lead to more even ones, and the most blocks in which they do."""

from itertools import combinations


def gap_of(ones, others):
    """Return None if the others are as many as the ones and more even, else where they are not.

    It is 0 if the sums are unlike, otherwise the least number of greatest integers with more than in the ones.
    """
    if sum(ones) != sum(others):
        return 0
    mine, theirs = sorted(ones, reverse=True), sorted(others, reverse=True)
    for many in range(1, len(mine)):
        if sum(theirs[:many]) > sum(mine[:many]):
            return many
    return None


def most_blocks(ones, others):
    """Return a list of the most pairs of falling tuples, of each of which the second one is the more even one.

    The pairs together have just the ones and the others, which are known to be more even. What both have is a block
    by itself: two blocks that had it would else be one without it, and so the blocks are not fewer.
    """
    mine, theirs, same = sorted(ones, reverse=True), [], []
    for number in sorted(others, reverse=True):
        if number in mine:
            mine.remove(number)
            same.append(((number,), (number,)))
        else:
            theirs.append(number)
    return same + parted(tuple(mine), tuple(theirs), {})


def parted(ones, others, known):
    """Return the most blocks of falling tuples, None if there are none; what is known already is asked first."""
    if not ones:
        return []
    if (ones, others) not in known:
        known[(ones, others)] = searched(ones, others, known)
    return known[(ones, others)]


def searched(ones, others, known):
    """Return the most blocks of falling tuples, None if there are none, by going through each first one."""
    best = None
    for block, left, others_left in first_blocks(ones, others):
        further = parted(left, others_left, known)
        if further is not None and (best is None or len(further) >= len(best)):
            best = [block] + further
    return best


def first_blocks(ones, others):
    """Return a list of each block with the first one in it, with what it leaves of the ones and of the others."""
    found = {}
    for many in range(1, len(ones) + 1):
        for mine in combinations(range(len(ones)), many):
            if mine[0] == 0:
                block, left = parted_at(ones, mine)
                for theirs in combinations(range(len(others)), many):
                    goal, others_left = parted_at(others, theirs)
                    if gap_of(block, goal) is None:
                        found[(block, goal)] = ((block, goal), left, others_left)
    return list(found.values())


def parted_at(numbers, places):
    """Return the tuple of the numbers in the places and that of those in other ones."""
    there = tuple([numbers[at] for at in places])
    return there, tuple([number for at, number in enumerate(numbers) if at not in places])
