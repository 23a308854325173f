"""Torn books, in which some amounts are lost: which amounts fill them, and what shows that none do."""

from caskyears.anew import built_anew
from caskyears.deeds import is_cask_of
from caskyears.errors import BadBook, BadLine
from caskyears.fractions import ONE, ZERO, added, is_above_zero, is_from_zero, lessened, negative
from caskyears.inequalities import all_hold, is_tuple_of, nothing, outcome, refuses
from caskyears.ledger import is_open_line
from caskyears.tables import check_casks


def filled_by(count, torn, amounts):
    """Return whether any object is amounts for the holes with which a torn book is right."""
    check_torn(count, torn)
    system = system_of(count, torn)
    return is_tuple_of(amounts, system[0]) and all_hold(system, amounts)


def some_filling(count, torn):
    """Return amounts for the holes with which a torn book is right, None if there are none."""
    check_torn(count, torn)
    found = feasibility(count, torn)
    return None if found[0] == "none" else tuple(found[2])


def between(count, torn, hole):
    """Return the tuple of the least and the greatest amount of a hole, this None without one; None without fillings."""
    check_torn(count, torn)
    if not is_cask_of(hole, holes_in(torn)):
        raise BadLine(built_anew(hole))
    return ends_of(system_of(count, torn), hole)


def settled(count, torn):
    """Return the ascending list of the numbers of the holes that have one amount alone."""
    check_torn(count, torn)
    system = system_of(count, torn)
    if outcome(system, nothing(system))[0] == "none":
        return []
    ends = [ends_of(system, hole) for hole in range(system[0])]
    return [hole for hole, (least, most) in enumerate(ends) if least == most]


def rows_of(count, torn):
    """Return the system whose unknowns are the holes."""
    check_torn(count, torn)
    return system_of(count, torn)


def refusal(count, torn):
    """Return multipliers that show that nothing fills a torn book, None if something does."""
    check_torn(count, torn)
    found = feasibility(count, torn)
    return tuple(found[1]) if found[0] == "none" else None


def refusal_shows(count, torn, value):
    """Return whether any object is multipliers that show that nothing fills a torn book."""
    check_torn(count, torn)
    return refuses(system_of(count, torn), value)


def first_wrong(count, torn):
    """Return the least number of first lines that nothing fills, None if something fills all."""
    check_torn(count, torn)
    for many in range(1, len(torn) + 1):
        if feasibility(count, torn[:many])[0] == "none":
            return many
    return None


def is_torn_line(value, casks):
    """Return whether any object is a line, with a hole or without, or a size that was seen."""
    if isinstance(value, tuple) and len(value) == 3 and isinstance(value[0], str) and value[0] == "seen":
        return is_cask_of(value[1], casks) and is_from_zero(value[2])
    return is_open_line(value, casks) and (value[-1] is None or is_above_zero(value[-1]))


def check_torn(count, torn):
    """Raise an error for a number of casks that there cannot be, and for what is no torn book for so many."""
    check_casks(count)
    if not isinstance(torn, tuple):
        raise BadBook(built_anew(torn))
    for at, line in enumerate(torn):
        if not is_torn_line(line, count):
            raise BadBook(at)


def holes_in(torn):
    """Return the number of the holes."""
    return len([line for line in torn if line[-1] is None])


def feasibility(count, torn):
    """Return what outcome tells of the system of a torn book if all amounts are worth nothing."""
    system = system_of(count, torn)
    return outcome(system, nothing(system))


def ends_of(system, hole):
    """Return the tuple of the least and the greatest amount of a hole, this None without one; None without fillings."""
    aim = tuple([ONE if at == hole else ZERO for at in range(system[0])])
    low = outcome(system, tuple([negative(entry) for entry in aim]))
    if low[0] == "none":
        return None
    high = outcome(system, aim)
    return negative(low[1]), high[1] if high[0] == "value" else None


def system_of(count, torn):
    """Return the system of a torn book: its rows are sums, lists of a factor for each hole and a constant behind."""
    number = holes_in(torn)
    rows = [at_most_zero([negative(ONE) if at == hole else ZERO for at in range(number + 1)]) for hole in range(number)]
    inside, holes = [[ZERO] * (number + 1) for _ in range(count)], 0
    for line in torn:
        much = [ZERO] * number + [line[-1]]
        if line[-1] is None:
            much = [ONE if at == holes else ZERO for at in range(number + 1)]
            holes += 1
        ahead = inside[line[1]]
        if line[0] == "seen":
            rows.extend([at_most_zero(differences(ahead, much)), at_most_zero(differences(much, ahead))])
        elif line[0] == "in":
            inside[line[1]] = sums(ahead, much)
        else:
            rows.append(at_most_zero(differences(much, ahead)))
            inside[line[1]] = differences(ahead, much)
            if line[0] == "move":
                inside[line[2]] = sums(inside[line[2]], much)
    return number, tuple(rows)


def sums(ones, others):
    """Return the list of the sums, place by place."""
    return [added(one, other) for one, other in zip(ones, others)]


def differences(ones, others):
    """Return the list of the differences, place by place."""
    return [lessened(one, other) for one, other in zip(ones, others)]


def at_most_zero(factors):
    """Return the row that tells that a sum with a constant behind is at most 0."""
    return tuple(factors[:-1]), negative(factors[-1])
