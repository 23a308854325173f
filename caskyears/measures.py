"""Unmarked vessels: which amounts they measure, and stands that no deed leaves."""

from caskyears.anew import built_anew
from caskyears.deeds import is_cask_of
from caskyears.errors import BadPours, BadSizes, BadStand, InvalidNumber
from caskyears.fractions import is_integer

MOST_VESSELS = 4


def measured(sizes, stand, deeds):
    """Return the stand behind a tuple of deeds."""
    check_stand(sizes, stand)
    if not isinstance(deeds, tuple):
        raise BadPours(built_anew(deeds))
    for at, deed in enumerate(deeds):
        if not is_vessel_deed(deed, len(sizes)):
            raise BadPours(at)
    here = stand
    for deed in deeds:
        here = behind_deed(sizes, here, deed)
    return here


def stands(sizes, stand, butt):
    """Return the ascending list of all stands that deeds lead to."""
    check_stand(sizes, stand)
    return sorted(list(ways_from(sizes, stand, butt)))


def fewest(sizes, stand, goal, butt):
    """Return a shortest tuple of deeds to a stand in which some vessel holds the goal, None if none leads to one."""
    check_goal(sizes, stand, goal)
    ways = ways_from(sizes, stand, butt)
    # The stands come in the sequence of how many deeds lead to them.
    there = [reached for reached in ways if goal in reached]
    if not there:
        return None
    here, deeds = there[0], []
    while ways[here] is not None:
        here, deed = ways[here]
        deeds.append(deed)
    return tuple(deeds[::-1])


def shut(sizes, stand, goal, butt):
    """Return an ascending list of stands, this one among them, that no deed leaves, none with the goal, or None."""
    check_goal(sizes, stand, goal)
    found = sorted(list(ways_from(sizes, stand, butt)))
    return None if any([goal in reached for reached in found]) else found


def shut_holds(sizes, stand, goal, butt, value):
    """Return whether any object is an ascending list of stands, this one among them, that no deed leaves."""
    check_goal(sizes, stand, goal)
    if not isinstance(value, list) or not all([is_stand(entry, sizes) for entry in value]):
        return False
    inside = {entry: True for entry in value}
    if sorted(list(inside)) != value or stand not in inside or any([goal in entry for entry in value]):
        return False
    deeds = deeds_for(len(sizes), butt)
    return all([behind_deed(sizes, entry, deed) in inside for entry in value for deed in deeds])


def measurable(sizes):
    """Return the ascending list of all goals that some vessel can hold, from empty ones on, with a butt."""
    check_sizes(sizes)
    return sorted(list(deeds_to_goals(sizes)))


def fewest_for_all(sizes):
    """Return the greatest number of deeds that a goal needs at least, from empty vessels on, with a butt."""
    check_sizes(sizes)
    return max(list(deeds_to_goals(sizes).values()))


def are_sizes(value):
    """Return whether any object is a tuple of one to four integers from 1 on."""
    if not isinstance(value, tuple) or not 1 <= len(value) <= MOST_VESSELS:
        return False
    return all([is_integer(entry) and entry >= 1 for entry in value])


def check_sizes(value):
    """Raise an error for what are no sizes."""
    if not are_sizes(value):
        raise BadSizes(built_anew(value))


def is_stand(value, sizes):
    """Return whether any object is a tuple of what each vessel holds."""
    if not isinstance(value, tuple) or len(value) != len(sizes):
        return False
    return all([is_integer(much) and 0 <= much <= size for much, size in zip(value, sizes)])


def check_stand(sizes, stand):
    """Raise an error for what are no sizes, and for what is no stand of them."""
    check_sizes(sizes)
    if not is_stand(stand, sizes):
        raise BadStand(built_anew(stand))


def check_goal(sizes, stand, goal):
    """Raise an error for what are no sizes and no stand, and for a goal below 0."""
    check_stand(sizes, stand)
    if goal < 0:
        raise InvalidNumber(goal)


def is_vessel_deed(value, vessels):
    """Return whether any object is a deed for so many vessels."""
    if not isinstance(value, tuple) or not value or not isinstance(value[0], str):
        return False
    if not all([is_cask_of(entry, vessels) for entry in value[1:]]):
        return False
    if value[0] == "pour":
        return len(value) == 3 and value[1] != value[2]
    return value[0] in ("fill", "empty") and len(value) == 2


def deeds_for(vessels, butt):
    """Return the list of all deeds for so many vessels, those with a butt alone if there is one."""
    numbers = range(vessels)
    found = [("pour", one, other) for one in numbers for other in numbers if one != other]
    if butt:
        found.extend([(word, one) for word in ("fill", "empty") for one in numbers])
    return found


def behind_deed(sizes, stand, deed):
    """Return the stand behind a deed."""
    held = list(stand)
    if deed[0] == "fill":
        held[deed[1]] = sizes[deed[1]]
    elif deed[0] == "empty":
        held[deed[1]] = 0
    else:
        goes = min(held[deed[1]], sizes[deed[2]] - held[deed[2]])
        held[deed[1]] -= goes
        held[deed[2]] += goes
    return tuple(held)


def ways_from(sizes, stand, butt):
    """Return a dict, by all stands that deeds lead to, of the one ahead and the deed, None for the first one.

    Stands to which fewer deeds lead stand ahead of others.
    """
    ways, line, deeds = {stand: None}, [stand], deeds_for(len(sizes), butt)
    while line:
        further = []
        for here in line:
            for deed in deeds:
                there = behind_deed(sizes, here, deed)
                if there not in ways:
                    ways[there] = (here, deed)
                    further.append(there)
        line = further
    return ways


def deeds_to_goals(sizes):
    """Return a dict, by all goals that some vessel can hold, of the fewest deeds from empty vessels on, with a butt."""
    ways, counts, found = ways_from(sizes, (0,) * len(sizes), True), {}, {}
    for stand, way in ways.items():
        counts[stand] = 0 if way is None else counts[way[0]] + 1
        for much in stand:
            found.setdefault(much, counts[stand])
    return found
