import unittest
from fractions import Fraction

from caskyears.errors import InvalidCellar, InvalidNumber, InvalidRecipe, InvalidTable, Unlike
from caskyears.recipes import is_recipe, same_way, table_of, worked
from caskyears.tables import is_table, still
from tests.helper import LONG, LONGER, NONE_OF_ANY, Case, amounts_of, drawing, fill, matrix, number, pair, product
from tests.helper import some_cellar, some_recipe, some_table, table, unit
from tests.test_deeds import HALF, NO_DEEDS, RED, WHITE
from tests.test_fills import NO_CELLARS
from tests.test_tables import NO_TABLES

MOVE = ("move", 0, 1, HALF)
NO_RECIPES = NONE_OF_ANY + [(deed,) for deed in NO_DEEDS] + [
    [], [MOVE], MOVE, (MOVE, ("add", 0, RED)), (("add", 0, ()),), (MOVE, None), (MOVE, list(MOVE)), {MOVE: 1}, "ab",
    (MOVE, ()),
]
TOO_FAR = [(("draw", 2, HALF),), (MOVE, ("move", 0, 2, HALF)), (MOVE, ("swap", 10**59, 0, (0, 1))),
    (("keep", 2, (1, 1)),)]


def deed_matrix(deed, casks):
    """Return the matrix of one deed."""
    rows = unit(casks)
    i, share = deed[1], number(deed[-1])
    if deed[0] == "keep":
        rows[i][i] = share
    else:
        rows[i][i] = 1 - share
    if deed[0] in ("move", "swap"):
        rows[deed[2]][i] = share
    if deed[0] == "swap":
        rows[deed[2]][deed[2]], rows[i][deed[2]] = 1 - share, share
    return rows


class Kinds(unittest.TestCase):
    def test_recipes(self):
        for value in [(), (MOVE,), (MOVE,) * 40, (("draw", 1, (1, 1)), ("keep", 0, (0, 1)), ("swap", 1, 0, HALF))]:
            self.assertIs(is_recipe(value, 2), True, value)
            self.assertIs(is_recipe(value, 8), True, value)
        for value in NO_RECIPES:
            self.assertIs(is_recipe(value, 8), False, value)

    def test_for_so_many(self):
        for value in TOO_FAR:
            self.assertIs(is_recipe(value, 2), False, value)
        self.assertIs(is_recipe((("draw", 7, HALF),), 8), True)
        self.assertIs(is_recipe((("draw", 7, HALF),), 7), False)
        self.assertIs(is_recipe((("move", 0, 7, HALF),), 7), False)
        for casks in (0, -1, 9, 10**40):
            self.assertIs(is_recipe((), casks), False)
        self.assertIs(is_recipe(casks=1, value=()), True)


class Working(Case, unittest.TestCase):
    def test_tables(self):
        draw = drawing(31)
        for casks in [1, 2, 3, 5, 8] * 4:
            recipe = some_recipe(draw, casks, 10)
            whole = unit(casks)
            for deed in recipe:
                whole = product(deed_matrix(deed, casks), whole)
            found = table_of(recipe, casks)
            self.assertEqual(matrix(found), whole)
            self.assertTrue(is_table(found))
        for casks in range(1, 9):
            self.assertEqual(table_of((), casks), still(casks))
        self.assertEqual(table_of(casks=2, recipe=(MOVE,)), table([Fraction(1, 2), 0], [Fraction(1, 2), 1]))

    def test_forty_deeds(self):
        share = Fraction(LONG, LONGER)
        deeds = (("keep", 7, pair(share)), ("swap", 7, 0, (1, 1))) * 20
        rows = unit(8)
        rows[0][0] = rows[7][7] = share**10
        self.assertEqual(matrix(table_of(deeds, 8)), rows)
        recipe = some_recipe(drawing(32), 8, 40)
        cellar = some_cellar(drawing(33), 8)
        self.assertEqual(worked(table_of(recipe, 8), cellar), same_way(recipe, cellar))

    def test_worked(self):
        draw = drawing(34)
        for casks in [1, 2, 3, 5, 8] * 4:
            of, cellar = some_table(draw, casks), some_cellar(draw, casks)
            found = worked(of, cellar)
            for kind in "abcz":
                amounts = amounts_of(cellar, kind)
                self.assertEqual(amounts_of(found, kind), [sum(x * y for x, y in zip(row, amounts))
                    for row in matrix(of)])
            self.assertEqual(len(found), casks)
        self.assertEqual(worked(still(2), (RED, WHITE)), (RED, WHITE))
        self.assertEqual(worked(table([0]), (RED,)), ((),))
        self.assertEqual(worked(cellar=((), ()), table=table([0, 1], [1, 0])), ((), ()))
        self.assertEqual(worked(table([0, 1], [1, 0]), (RED, WHITE)), (WHITE, RED))

    def test_both_ways_leave_the_same(self):
        draw = drawing(35)
        for casks in [1, 2, 3, 5, 8] * 6:
            recipe, cellar = some_recipe(draw, casks, 8), some_cellar(draw, casks)
            behind = same_way(recipe, cellar)
            self.assertEqual(behind, worked(table_of(recipe, casks), cellar))
        self.assertEqual(same_way((), (RED, ())), (RED, ()))
        self.assertEqual(same_way(cellar=(RED, WHITE), recipe=(("draw", 0, HALF),)), (fill(red=2), WHITE))


class Refusals(Case, unittest.TestCase):
    def test_recipes(self):
        for value in NO_RECIPES:
            with self.subTest(value=value):
                self.refused(InvalidRecipe, value, table_of, value, 0)
                self.refused(InvalidRecipe, value, same_way, value, None)

    def test_numbers(self):
        for casks in (0, -1, 9, 10**40):
            self.refused(InvalidNumber, casks, table_of, (), casks)
            self.refused(InvalidNumber, casks, table_of, casks=casks, recipe=TOO_FAR[0])

    def test_casks_that_are_not_there(self):
        for value in TOO_FAR:
            self.refused(InvalidRecipe, value, table_of, value, 2)
            self.refused(InvalidRecipe, value, same_way, value, (RED, WHITE))

    def test_cellars(self):
        for value in NO_CELLARS:
            with self.subTest(value=value):
                self.refused(InvalidCellar, value, worked, still(2), value)
                self.refused(InvalidCellar, value, same_way, TOO_FAR[0], value)
        for value in NO_TABLES:
            with self.subTest(value=value):
                self.refused(InvalidTable, value, worked, value, None)
        self.refused(Unlike, 2, worked, still(3), (RED, WHITE))
        self.refused(Unlike, 3, worked, cellar=(RED, WHITE, ()), table=still(1))


if __name__ == "__main__":
    unittest.main()
