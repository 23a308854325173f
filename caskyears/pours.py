"""Pours that are cut where a cask is empty or full: what they do, and whether any may be cut."""

from caskyears.anew import built_anew
from caskyears.deeds import check_cask, is_cask_of, stages_of
from caskyears.errors import BadDregs, BadPours, BadRanges, BadRooms, InvalidCellar
from caskyears.fills import MOST_CASKS, check_cellar, is_kind, size_of
from caskyears.fractions import ZERO, added, divided, is_above_zero, is_from_zero, lessened, lesser, order

WITH_AMOUNT = ("pour", "tap", "top")


def poured(cellar, rooms, dregs, pours):
    """Return the cellar behind pours."""
    check_all(cellar, rooms, dregs, pours)
    return stages_of(cellar, deeds_of(cellar, rooms, dregs, pours))[-1]


def gone(cellar, rooms, dregs, pours):
    """Return the tuple of the amounts that each entry moved."""
    check_all(cellar, rooms, dregs, pours)
    return tuple(run_of(sizes_of(cellar), rooms, dregs, pours)[0])


def cut_at(cellar, rooms, dregs, pours):
    """Return the ascending list of the indexes of the entries that are cut."""
    check_all(cellar, rooms, dregs, pours)
    moved, _ = run_of(sizes_of(cellar), rooms, dregs, pours)
    return [at for at, entry in enumerate(pours) if entry[0] in WITH_AMOUNT and moved[at] != entry[-1]]


def as_deeds(cellar, rooms, dregs, pours):
    """Return the tuple of the deeds that do the same with this cellar, one for each entry that moves something."""
    check_all(cellar, rooms, dregs, pours)
    return tuple(deeds_of(cellar, rooms, dregs, pours))


def may_be_cut(rooms, ranges, pours):
    """Return None if no entry is cut for any sizes within the ranges, else the index of the first that may be."""
    check_plain(rooms, ranges, pours)
    found = first_cut(rooms, ranges, pours)
    return None if found is None else found[0]


def cut_sizes(rooms, ranges, pours):
    """Return sizes within the ranges with which the entry of may_be_cut is cut, None if there is none."""
    check_plain(rooms, ranges, pours)
    found = first_cut(rooms, ranges, pours)
    return None if found is None else ends_of(ranges, found[1])


def size_between(rooms, dregs, ranges, pours, cask):
    """Return the tuple of the least and the greatest size of a cask behind pours, for all sizes within the ranges."""
    check_ranged(rooms, dregs, ranges, pours, cask)
    sizes = [run_of(ends_of(ranges, end), rooms, dregs, pours)[1] for end in (0, 1)]
    return sizes[0][cask], sizes[1][cask]


def sizes_for(rooms, dregs, ranges, pours, cask, greatest):
    """Return sizes within the ranges that reach the greatest or the least size of a cask behind pours."""
    check_ranged(rooms, dregs, ranges, pours, cask)
    return ends_of(ranges, 1 if greatest else 0)


def are_rooms(value):
    """Return whether any object is a tuple of one to eight amounts above 0."""
    if not isinstance(value, tuple) or not 1 <= len(value) <= MOST_CASKS:
        return False
    return all([is_above_zero(entry) for entry in value])


def check_rooms(value):
    """Raise an error for what are no rooms."""
    if not are_rooms(value):
        raise BadRooms(built_anew(value))


def check_dregs(rooms, dregs):
    """Raise an error for what are no dregs of casks with these rooms."""
    if not isinstance(dregs, tuple) or len(dregs) != len(rooms) or not all([is_from_zero(entry) for entry in dregs]):
        raise BadDregs(built_anew(dregs))
    if not all([order(entry, room) <= 0 for entry, room in zip(dregs, rooms)]):
        raise BadDregs(built_anew(dregs))


def check_ranges(rooms, ranges):
    """Raise an error for what are no ranges of casks with these rooms."""
    if not isinstance(ranges, tuple) or len(ranges) != len(rooms):
        raise BadRanges(built_anew(ranges))
    if not all([is_range(entry, room) for entry, room in zip(ranges, rooms)]):
        raise BadRanges(built_anew(ranges))


def is_range(value, room):
    """Return whether any object is a tuple of two amounts, the first one at most the second, that at most the room."""
    if not isinstance(value, tuple) or len(value) != 2 or not all([is_from_zero(entry) for entry in value]):
        return False
    return order(value[0], value[1]) <= 0 and order(value[1], room) <= 0


def is_pour(value, casks):
    """Return whether any object is an entry of pours for so many casks."""
    if not isinstance(value, tuple) or len(value) < 3 or not isinstance(value[0], str):
        return False
    if not is_cask_of(value[1], casks):
        return False
    if value[0] == "tap":
        return len(value) == 3 and is_from_zero(value[2])
    if value[0] == "top":
        return len(value) == 4 and is_kind(value[2]) and is_from_zero(value[3])
    if not is_cask_of(value[2], casks) or value[1] == value[2]:
        return False
    if value[0] == "pour":
        return len(value) == 4 and is_from_zero(value[3])
    return value[0] in ("till", "rack") and len(value) == 3


def check_pours(pours, casks):
    """Raise an error for what are no pours of so many casks."""
    if not isinstance(pours, tuple):
        raise BadPours(built_anew(pours))
    for at, entry in enumerate(pours):
        if not is_pour(entry, casks):
            raise BadPours(at)


def check_all(cellar, rooms, dregs, pours):
    """Raise an error for what are no cellar, no rooms in which it has its place, no dregs and no pours."""
    check_cellar(cellar)
    if not are_rooms(rooms) or len(rooms) != len(cellar):
        raise BadRooms(built_anew(rooms))
    if not all([order(much, room) <= 0 for much, room in zip(sizes_of(cellar), rooms)]):
        raise InvalidCellar(built_anew(cellar))
    check_dregs(rooms, dregs)
    check_pours(pours, len(rooms))


def check_plain(rooms, ranges, pours):
    """Raise an error for what are no rooms, no ranges and no pours with amounts."""
    check_rooms(rooms)
    check_ranges(rooms, ranges)
    if not isinstance(pours, tuple):
        raise BadPours(built_anew(pours))
    for at, entry in enumerate(pours):
        if not is_pour(entry, len(rooms)) or entry[0] not in WITH_AMOUNT:
            raise BadPours(at)


def check_ranged(rooms, dregs, ranges, pours, cask):
    """Raise an error for what are no rooms, no dregs, no ranges, no pours and no cask."""
    check_rooms(rooms)
    check_dregs(rooms, dregs)
    check_ranges(rooms, ranges)
    check_pours(pours, len(rooms))
    check_cask(cask, len(rooms))


def sizes_of(cellar):
    """Return the tuple of how much is in each cask."""
    return tuple([size_of(fill) for fill in cellar])


def ends_of(ranges, end):
    """Return the tuple of all lows or of all highs of ranges."""
    return tuple([entry[end] for entry in ranges])


def run_of(sizes, rooms, dregs, pours):
    """Return the list of the amounts that each entry moves, and the list of the sizes behind them."""
    now, moved = list(sizes), []
    for entry in pours:
        much = moved_by(entry, now, rooms, dregs)
        moved.append(much)
        now = behind_entry(entry, now, much)
    return moved, now


def moved_by(entry, sizes, rooms, dregs):
    """Return how much an entry moves at these sizes."""
    word, first = entry[0], entry[1]
    if word == "tap":
        return lesser(entry[2], sizes[first])
    if word == "top":
        return lesser(entry[3], lessened(rooms[first], sizes[first]))
    there = lessened(rooms[entry[2]], sizes[entry[2]])
    if word == "rack":
        above = lessened(sizes[first], dregs[first])
        return ZERO if above[0] < 0 else lesser(above, there)
    most = lesser(sizes[first], there)
    return lesser(entry[3], most) if word == "pour" else most


def behind_entry(entry, sizes, much):
    """Return the list of the sizes behind an entry that moves so much."""
    behind = list(sizes)
    if entry[0] == "top":
        behind[entry[1]] = added(behind[entry[1]], much)
        return behind
    behind[entry[1]] = lessened(behind[entry[1]], much)
    if entry[0] != "tap":
        behind[entry[2]] = added(behind[entry[2]], much)
    return behind


def deeds_of(cellar, rooms, dregs, pours):
    """Return the list of the deeds that do what the pours do with this cellar."""
    now, deeds = sizes_of(cellar), []
    for entry in pours:
        much = moved_by(entry, now, rooms, dregs)
        if much != ZERO:
            if entry[0] == "top":
                deeds.append(("add", entry[1], ((entry[2], much),)))
            elif entry[0] == "tap":
                deeds.append(("draw", entry[1], divided(much, now[entry[1]])))
            else:
                deeds.append(("move", entry[1], entry[2], divided(much, now[entry[1]])))
        now = behind_entry(entry, now, much)
    return deeds


def first_cut(rooms, ranges, pours):
    """Return the first index that may be cut, and the end of the ranges at which it is, None if none may be.

    As long as nothing is cut each size is a first one and a constant: so a cask has too little if at all at the lows,
    and too little room if at all at the highs.
    """
    lows, highs = ends_of(ranges, 0), ends_of(ranges, 1)
    for at, entry in enumerate(pours):
        for end, sizes in enumerate((lows, highs)):
            if moved_by(entry, sizes, rooms, ()) != entry[-1]:
                return at, end
        lows, highs = behind_entry(entry, lows, entry[-1]), behind_entry(entry, highs, entry[-1])
    return None
