"""Recipes that make a table with as many empty casks beside."""

from caskyears.anew import built_anew
from caskyears.errors import InvalidTable
from caskyears.fractions import ONE, ZERO, divided, lessened
from caskyears.recipes import is_recipe, table_by_marks
from caskyears.tables import is_table

MOST_MADE = 4


def recipe_with_spares(table):
    """Return a recipe for twice as many casks that does in the lower ones what the table does."""
    check_made(table)
    casks = len(table)
    deeds = [("move", cask, casks + cask, ONE) for cask in range(casks)]
    for cask in range(casks):
        deeds.extend(shared_out(casks + cask, [row[cask] for row in table]))
    return tuple(deeds)


def makes(table, value):
    """Return whether any object is a recipe for twice as many casks that does in the lower ones what the table does."""
    check_made(table)
    casks = len(table)
    if not is_recipe(value, 2 * casks):
        return False
    made = table_by_marks(value, 2 * casks)
    wanted = table + ((ZERO,) * casks,) * casks
    return all([made[at][:casks] == wanted[at] for at in range(2 * casks)])


def check_made(table):
    """Raise an error for what is no table for at most four casks."""
    if not is_table(table) or len(table) > MOST_MADE:
        raise InvalidTable(built_anew(table))


def shared_out(spare, shares):
    """Return the deeds that give shares of what is in a spare cask to the lowest casks and draw what is left."""
    deeds, left = [], ONE
    for cask, share in enumerate(shares):
        if share != ZERO:
            deeds.append(("move", spare, cask, divided(share, left)))
            left = lessened(left, share)
    if left != ZERO:
        deeds.append(("draw", spare, ONE))
    return deeds
