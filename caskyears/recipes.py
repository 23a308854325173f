"""Recipes: deeds one after the other, none of them an add, and their tables."""

from caskyears.anew import built_anew
from caskyears.deeds import has_casks, is_deed, stages_of
from caskyears.errors import InvalidRecipe, Unlike
from caskyears.fills import MOST_CASKS, amount_of, check_cellar, fill_from, kinds_of
from caskyears.fractions import ONE
from caskyears.grids import grid_of, product_of, rows_of
from caskyears.tables import check_casks, check_table

MARKS = "abcdefgh"


def is_recipe(value, casks):
    """Return whether any object is a recipe for so many casks."""
    return 1 <= casks <= MOST_CASKS and is_some_recipe(value) and is_for(value, casks)


def table_of(recipe, casks):
    """Return the table of a recipe."""
    check_recipe(recipe)
    check_casks(casks)
    check_fit(recipe, casks)
    return table_by_marks(recipe, casks)


def worked(table, cellar):
    """Return the cellar that a table leaves."""
    check_table(table)
    check_cellar(cellar)
    check_as_many(table, cellar)
    return left_by(table, cellar)


def same_way(recipe, cellar):
    """Return the cellar behind the deeds of a recipe."""
    check_recipe(recipe)
    check_cellar(cellar)
    check_fit(recipe, len(cellar))
    return stages_of(cellar, recipe)[-1]


def is_some_recipe(value):
    """Return whether any object is a recipe, for however many casks."""
    return isinstance(value, tuple) and all([is_deed(deed) and deed[0] != "add" for deed in value])


def is_for(recipe, casks):
    """Return whether a recipe is for so many casks."""
    return all([has_casks(deed, casks) for deed in recipe])


def check_recipe(value):
    """Raise an error for what is no recipe, for however many casks."""
    if not is_some_recipe(value):
        raise InvalidRecipe(built_anew(value))


def check_fit(recipe, casks):
    """Raise an error for a recipe with a cask that there is not."""
    if not is_for(recipe, casks):
        raise InvalidRecipe(built_anew(recipe))


def check_as_many(table, cellar):
    """Raise an error for a cellar with another number of casks than the table."""
    if len(table) != len(cellar):
        raise Unlike(len(cellar))


def left_by(table, cellar):
    """Return the cellar that a table leaves, both known to be so and for as many casks."""
    return left_by_grid(grid_of(table), cellar)


def left_by_grid(grid, cellar):
    """Return the cellar that the table of a grid leaves, kind by kind."""
    kinds = kinds_of(cellar)
    if not kinds:
        return cellar
    amounts = grid_of([[amount_of(fill, kind) for kind in kinds] for fill in cellar])
    rows = rows_of(product_of(grid, amounts))
    return tuple([fill_from({kind: much for kind, much in zip(kinds, row)}) for row in rows])


def table_by_marks(recipe, casks):
    """Return the table of what is known to be a recipe for so many casks.

    One part of a kind of its own is put into each cask. As a recipe is linear, what is left of these parts is its
    table.
    """
    marked = tuple([((mark, ONE),) for mark in MARKS[:casks]])
    left = stages_of(marked, recipe)[-1]
    return tuple([tuple([amount_of(fill, mark) for mark in MARKS[:casks]]) for fill in left])
