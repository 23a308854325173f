"""What glasses behind a recipe tell of the shares of a kind that the casks had in the morning."""

from caskyears.anew import built_anew
from caskyears.deeds import check_cask, is_cask_of
from caskyears.elimination import rank_of, solved
from caskyears.errors import BadSizes, BadTold, InvalidRecipe
from caskyears.fills import MOST_CASKS
from caskyears.fractions import ZERO, divided, is_from_zero, is_share, multiplied, negative, order
from caskyears.recipes import is_for, is_some_recipe, table_by_marks
from caskyears.unknowns import ends_for, ends_of, point_for, rows_known


def mornings(sizes, recipe, glasses):
    """Return whether no shares of the morning fit the glasses, one tuple of them alone, or many, of which dimension."""
    tastes = tastes_of(sizes, recipe, glasses)
    full = full_casks(sizes)
    ends = ends_of(len(full), tastes)
    if ends is None:
        return ("none",)
    dimension = len(full) - rank_of(rows_known(len(full), tastes, ends))
    return ("many", dimension) if dimension else ("one", in_all_casks(sizes, [least for least, _ in ends]))


def morning(sizes, recipe, glasses):
    """Return shares of the morning that fit the glasses, None if there are none."""
    tastes = tastes_of(sizes, recipe, glasses)
    found = point_for(len(full_casks(sizes)), tastes)
    return None if found is None else in_all_casks(sizes, found)


def morning_between(sizes, recipe, glasses, cask):
    """Return the tuple of the least and the greatest share of a cask of the morning, None if no shares fit."""
    tastes = tastes_of(sizes, recipe, glasses)
    check_cask(cask, len(sizes))
    full = full_casks(sizes)
    if cask in full:
        return ends_for(len(full), tastes, full.index(cask))
    return None if point_for(len(full), tastes) is None else (ZERO, ZERO)


def blind_pair(sizes, recipe):
    """Return two unlike tuples of shares of the morning with which all glasses tell the same, None without any."""
    check_recipe_for(sizes, recipe)
    found = solved(evening_rows(sizes, recipe), [ZERO] * len(sizes)) if full_casks(sizes) else ("one", [])
    if found[0] == "one":
        return None
    way = found[2][0]
    most = ZERO
    for entry in way + [negative(entry) for entry in way]:
        most = entry if order(entry, most) > 0 else most
    steps = [divided(entry, most) for entry in way]
    ups = [step if step[0] > 0 else ZERO for step in steps]
    downs = [negative(step) if step[0] < 0 else ZERO for step in steps]
    return in_all_casks(sizes, ups), in_all_casks(sizes, downs)


def fewest_evening(sizes, recipe):
    """Return the least number of casks whose glasses tell the morning in all cases, None if all do not."""
    check_recipe_for(sizes, recipe)
    full = len(full_casks(sizes))
    # So many casks as there are unknowns are needed, and so many do if their rows are free of one another.
    return full if rank_of(evening_rows(sizes, recipe)) == full else None


def check_recipe_for(sizes, recipe):
    """Raise an error for what are no sizes of casks, and for what is no recipe for so many."""
    if not isinstance(sizes, tuple) or not 1 <= len(sizes) <= MOST_CASKS:
        raise BadSizes(built_anew(sizes))
    if not all([is_from_zero(entry) for entry in sizes]):
        raise BadSizes(built_anew(sizes))
    if not is_some_recipe(recipe) or not is_for(recipe, len(sizes)):
        raise InvalidRecipe(built_anew(recipe))


def tastes_of(sizes, recipe, glasses):
    """Return the tuple of what the glasses are as tastes, all of which is checked here.

    The unknowns are the shares of the casks that are not empty in the morning, the parts what comes from them.
    """
    check_recipe_for(sizes, recipe)
    rows = evening_rows(sizes, recipe)
    if not isinstance(glasses, tuple) or not all([is_glass(entry, rows) for entry in glasses]):
        raise BadTold(built_anew(glasses))
    return tuple([(tuple(rows[cask]), share) for cask, share in glasses])


def is_glass(value, rows):
    """Return whether any object is a tuple of a cask that is not empty behind the recipe and a share."""
    if not isinstance(value, tuple) or len(value) != 2 or not is_cask_of(value[0], len(rows)):
        return False
    return is_share(value[1]) and any([much != ZERO for much in rows[value[0]]])


def full_casks(sizes):
    """Return the ascending list of the casks that are not empty in the morning."""
    return [cask for cask, size in enumerate(sizes) if size != ZERO]


def evening_rows(sizes, recipe):
    """Return the list, for each cask, of the list of how much of each cask that was not empty comes to be in it."""
    full = full_casks(sizes)
    return [[multiplied(row[cask], sizes[cask]) for cask in full] for row in table_by_marks(recipe, len(sizes))]


def in_all_casks(sizes, shares):
    """Return the tuple of the shares in all casks, 0 in the empty ones."""
    found = [ZERO] * len(sizes)
    for cask, share in zip(full_casks(sizes), shares):
        found[cask] = share
    return tuple(found)
