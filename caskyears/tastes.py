"""Tastes: which glasses of several casks find out the spoilt ones."""

from itertools import combinations

from caskyears.anew import built_anew
from caskyears.deeds import is_place
from caskyears.errors import BadGlasses, BadTold, InvalidNumber
from caskyears.tables import check_casks


def answers(glasses, spoilt, faint):
    """Return the tuple of whether each glass is bad with these spoilt casks."""
    if not are_glasses(glasses, None):
        raise BadGlasses(built_anew(glasses))
    if not is_set(spoilt, None):
        raise BadTold(built_anew(spoilt))
    check_faint(faint)
    return answers_of(glasses, spoilt, faint)


def finds(number, most, glasses, faint):
    """Return whether unlike sets of at most so many spoilt casks have unlike answers."""
    check_glasses(number, most, glasses, faint)
    return pair_of(number, most, glasses, faint) is None


def alike_pair(number, most, glasses, faint):
    """Return a tuple of two unlike sets of spoilt casks with the same answers, None if there are none."""
    check_glasses(number, most, glasses, faint)
    return pair_of(number, most, glasses, faint)


def fitting(number, most, glasses, faint, told):
    """Return the list of the sets of spoilt casks that have these answers."""
    check_glasses(number, most, glasses, faint)
    if not are_answers(told, len(glasses)):
        raise BadTold(built_anew(told))
    return [spoilt for spoilt in sets_of(number, most) if answers_of(glasses, spoilt, faint) == told]


def fewest_glasses(number, most, faint):
    """Return the least number of glasses that find."""
    check_numbers(number, most, faint)
    return len(fewest_that_find(number, most, faint))


def some_glasses(number, most, faint):
    """Return a tuple of the fewest glasses that find."""
    check_numbers(number, most, faint)
    return tuple(fewest_that_find(number, most, faint))


def fewest_in_turn(number, most, faint):
    """Return the least number of glasses that find if each is chosen behind the answers of those ahead."""
    check_numbers(number, most, faint)
    return best_in_turn(number, most, faint)[0]


def turn_tree(number, most, faint):
    """Return a tree of glasses, chosen one by one, of the least depth that finds."""
    check_numbers(number, most, faint)
    return best_in_turn(number, most, faint)[1]


def is_set(value, number):
    """Return whether any object is an ascending tuple of casks, of so many or of any number if this is None."""
    if not isinstance(value, tuple) or not all([is_place(entry, number) for entry in value]):
        return False
    return all([value[at] < value[at + 1] for at in range(len(value) - 1)])


def are_glasses(value, number):
    """Return whether any object is glasses of casks, of so many or of any number if this is None."""
    return isinstance(value, tuple) and all([is_set(glass, number) and len(glass) > 0 for glass in value])


def are_answers(value, many):
    """Return whether any object is a tuple of so many truths."""
    return isinstance(value, tuple) and len(value) == many and all([isinstance(entry, bool) for entry in value])


def check_most(number, most):
    """Raise an error for a number of casks that there cannot be, and for more spoilt ones than these."""
    check_casks(number)
    if not 0 <= most <= number:
        raise InvalidNumber(most)


def check_faint(faint):
    """Raise an error for a number below 1."""
    if faint is not None and faint < 1:
        raise InvalidNumber(faint)


def check_numbers(number, most, faint):
    """Raise an error for numbers out of their bounds."""
    check_most(number, most)
    check_faint(faint)


def check_glasses(number, most, glasses, faint):
    """Raise an error for numbers out of their bounds, and for what are no glasses of so many casks."""
    check_most(number, most)
    if not are_glasses(glasses, number):
        raise BadGlasses(built_anew(glasses))
    check_faint(faint)


def is_bad(glass, spoilt, faint):
    """Return whether a glass is bad with these spoilt casks."""
    many = len([cask for cask in glass if cask in spoilt])
    return many > 0 if faint is None else many * faint >= len(glass)


def answers_of(glasses, spoilt, faint):
    """Return the tuple of whether each glass is bad."""
    return tuple([is_bad(glass, spoilt, faint) for glass in glasses])


def sets_of(number, most):
    """Return the list of all sets of at most so many of the casks, by how many they are, then as tuples are ordered."""
    return [spoilt for many in range(most + 1) for spoilt in combinations(range(number), many)]


def all_glasses(number):
    """Return the list of all glasses of casks, those of fewer casks first."""
    return [glass for glass in sets_of(number, number) if glass]


def pair_of(number, most, glasses, faint):
    """Return a tuple of two unlike sets of spoilt casks with the same answers, None if there are none."""
    seen = {}
    for spoilt in sets_of(number, most):
        told = answers_of(glasses, spoilt, faint)
        if told in seen:
            return seen[told], spoilt
        seen[told] = spoilt
    return None


def least_tries(many):
    """Return the least number of truths that can tell so many apart."""
    tries = 0
    while 1 << tries < many:
        tries += 1
    return tries


def fewest_that_find(number, most, faint):
    """Return the list of the fewest glasses that find.

    With one glass for each cask they do, so the search comes to an end.
    """
    glasses, fit = all_glasses(number), sets_of(number, most)
    marks = [[is_bad(glass, spoilt, faint) for spoilt in fit] for glass in glasses]
    tries, found = least_tries(len(fit)), None
    while found is None:
        found = some_that_part([list(range(len(fit)))], marks, 0, tries, glasses)
        tries += 1
    return [glasses[at] for at in found]


def some_that_part(groups, marks, first, tries, glasses):
    """Return a list of the indexes of at most so many glasses that part all groups into single ones, None if none do.

    The glasses are numbered from the first one on. The casks may be renamed, so the first glass that is chosen, of
    which all others have at least as many casks, has the first casks.
    """
    left = [group for group in groups if len(group) > 1]
    if not left:
        return []
    if max([len(group) for group in left]) > 1 << tries:
        return None
    for at in range(first, len(glasses)):
        if len(groups) > 1 or glasses[at] == tuple(range(len(glasses[at]))):
            parts = parts_by(left, marks[at])
            if len(parts) > len(left):
                found = some_that_part(parts, marks, at + 1, tries - 1, glasses)
                if found is not None:
                    return [at] + found
    return None


def parts_by(groups, marks):
    """Return the list of the groups, each parted by the marks of its members, none of them empty."""
    parts = [[member for member in group if marks[member] == mark] for group in groups for mark in (True, False)]
    return [part for part in parts if part]


def best_in_turn(number, most, faint):
    """Return the depth and a tree of the fewest glasses in turn that find."""
    glasses, fit = all_glasses(number), sets_of(number, most)
    tries, found, known = least_tries(len(fit)), None, {}
    while found is None:
        found = tree_for(tuple(fit), tries, glasses, faint, known)
        tries += 1
    return tries - 1, found


def tree_for(fit, tries, glasses, faint, known):
    """Return a tree of at most so many glasses in turn that tells apart the sets that fit, None if there is none."""
    if len(fit) == 1:
        return "are", fit[0]
    if len(fit) > 1 << tries:
        return None
    if (fit, tries) not in known:
        known[(fit, tries)] = None
        for glass in glasses:
            bad = tuple([spoilt for spoilt in fit if is_bad(glass, spoilt, faint)])
            good = tuple([spoilt for spoilt in fit if spoilt not in bad])
            if bad and good and max(len(bad), len(good)) <= 1 << (tries - 1):
                if_bad = tree_for(bad, tries - 1, glasses, faint, known)
                if_good = None if if_bad is None else tree_for(good, tries - 1, glasses, faint, known)
                if if_good is not None:
                    known[(fit, tries)] = ("glass", glass, if_bad, if_good)
                    break
    return known[(fit, tries)]
