"""Recipes that do the same for all cellars, and cellars that are worked to a told one."""

from caskyears.feasible import point_or_refusal
from caskyears.fills import amount_of, check_cellar, fill_from, is_cellar, is_kind, kinds_of
from caskyears.fractions import ONE, ZERO, added, divided, is_fraction, lesser, multiplied, negative, products
from caskyears.recipes import check_as_many, check_fit, check_recipe, left_by, table_by_marks, table_of
from caskyears.tables import check_casks, check_table


def alike(one, other, casks):
    """Return whether two recipes leave the same of all cellars."""
    mine, theirs = tables_of(one, other, casks)
    return mine == theirs


def parting(one, other, casks):
    """Return the first cask and the first one behind that show that two recipes are not alike, None if they are."""
    mine, theirs = tables_of(one, other, casks)
    for source in range(casks):
        for goal in range(casks):
            if mine[goal][source] != theirs[goal][source]:
                return source, goal, mine[goal][source], theirs[goal][source]
    return None


def passing(one, other, casks):
    """Return whether both sequences of two recipes leave the same of all cellars."""
    check_both(one, other, casks)
    return table_by_marks(one + other, casks) == table_by_marks(other + one, casks)


def needless(recipe, casks):
    """Return the ascending list of the indexes of the deeds that can each be left out alone."""
    whole = table_of(recipe, casks)
    return [at for at in range(len(recipe)) if table_by_marks(recipe[:at] + recipe[at + 1 :], casks) == whole]


def check_both(one, other, casks):
    """Raise an error for what are no two recipes for so many casks."""
    check_recipe(one)
    check_recipe(other)
    check_casks(casks)
    check_fit(one, casks)
    check_fit(other, casks)


def tables_of(one, other, casks):
    """Return the tables of two recipes that are checked here."""
    check_both(one, other, casks)
    return table_by_marks(one, casks), table_by_marks(other, casks)


def ahead(table, cellar):
    """Return the one cellar that is worked to the cellar, two of several ones, or prices that show there is none."""
    check_work(table, cellar)
    # Of no wine at all any kind may still stand for what all is lost of.
    kinds = kinds_of(cellar) or ["a"]
    points = {}
    for kind in kinds:
        word, numbers = point_or_refusal(table, [amount_of(fill, kind) for fill in cellar])
        if word == "refusal":
            return "none", kind, tuple(numbers)
        points[kind] = numbers
    for kind in kinds:
        other = other_point(table, points[kind])
        if other is not None:
            return "many", cellar_from(points), cellar_from({**points, kind: other})
    return "one", cellar_from(points)


def ahead_holds(table, cellar, value):
    """Return whether any object tells truly which cellars are worked to the cellar."""
    check_work(table, cellar)
    if not isinstance(value, tuple) or not 2 <= len(value) <= 3 or not isinstance(value[0], str):
        return False
    if value[0] == "one":
        return len(value) == 2 and comes_to(table, value[1], cellar) and ahead(table, cellar)[0] == "one"
    if len(value) != 3:
        return False
    if value[0] == "many":
        return comes_to(table, value[1], cellar) and comes_to(table, value[2], cellar) and value[1] != value[2]
    if value[0] != "none" or not is_kind(value[1]) or not refuse(table, cellar, value[1], value[2]):
        return False
    return ahead(table, cellar)[:2] == ("none", value[1])


def check_work(table, cellar):
    """Raise an error for what are no table and no cellar of as many casks."""
    check_table(table)
    check_cellar(cellar)
    check_as_many(table, cellar)


def comes_to(table, value, cellar):
    """Return whether any object is a cellar that the table works to the cellar."""
    return is_cellar(value) and len(value) == len(table) and left_by(table, value) == cellar


def refuse(table, cellar, kind, value):
    """Return whether any object is prices which show that no cellar is worked to this one."""
    if not isinstance(value, tuple) or len(value) != len(table) or not all([is_fraction(price) for price in value]):
        return False
    worths = [products([row[at] for row in table], value) for at in range(len(table))]
    left = products([amount_of(fill, kind) for fill in cellar], value)
    return all([worth[0] >= 0 for worth in worths]) and left[0] < 0


def other_point(table, point):
    """Return another list of fractions from 0 on that the table brings to the same, None if there is none.

    Where the point is 0 a way to another one goes up; elsewhere it may go down, too, a column of its own for this.
    As the columns where the point is above 0 are free of one another, some step goes up where it is 0.
    """
    casks = len(point)
    down = [cask for cask in range(casks) if point[cask] != ZERO]
    rows = [list(row) + [negative(row[cask]) for cask in down] for row in table]
    rows.append([ZERO if cask in down else ONE for cask in range(casks)] + [ZERO] * len(down))
    word, numbers = point_or_refusal(rows, [ZERO] * casks + [ONE])
    if word == "refusal":
        return None
    way = numbers[:casks]
    for at, cask in enumerate(down):
        way[cask] = added(way[cask], negative(numbers[casks + at]))
    return stepped(point, way)


def stepped(point, way):
    """Return the point some part of the way farther, with nothing below 0."""
    step = ONE
    for here, goes in zip(point, way):
        if goes[0] < 0:
            step = lesser(step, divided(here, negative(goes)))
    return [added(here, multiplied(step, goes)) for here, goes in zip(point, way)]


def cellar_from(points):
    """Return the cellar of a dict of lists of amounts, cask by cask, by kinds."""
    casks = len(list(points.values())[0])
    return tuple([fill_from({kind: points[kind][cask] for kind in points}) for cask in range(casks)])
