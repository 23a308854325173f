import unittest
from fractions import Fraction

from caskyears.errors import InvalidTable
from caskyears.making import makes, recipe_with_spares
from caskyears.recipes import is_recipe, same_way, worked
from caskyears.tables import still
from tests.helper import LONG, LONGER, Case, drawing, some_cellar, some_table, table
from tests.test_deeds import HALF
from tests.test_recipes import NO_RECIPES
from tests.test_tables import NO_TABLES

TURN = table([0, 1], [1, 0])


class Making(Case, unittest.TestCase):
    def check(self, of):
        """Check the recipe of a table on cellars whose upper half is empty."""
        recipe = recipe_with_spares(of)
        casks = len(of)
        self.assertTrue(is_recipe(recipe, 2 * casks))
        self.assertLessEqual(len(recipe), 40)
        self.assertIs(makes(of, recipe), True)
        for seed in range(3):
            lower = some_cellar(drawing(seed), casks, "abcd")
            self.assertEqual(same_way(recipe, lower + ((),) * casks), worked(of, lower) + ((),) * casks)

    def test_tables(self):
        draw = drawing(51)
        for casks in [1, 2, 3, 4] * 15:
            self.check(some_table(draw, casks))
            self.check(some_table(draw, casks, loss=False))
        for casks in range(1, 5):
            self.check(still(casks))
            self.check(table(*[[0] * casks] * casks))
            self.check(table(*[[Fraction(1, casks)] * casks] * casks))
            self.check(table(*[[Fraction(1, LONGER)] * casks] * casks))
            self.check(table(*[[Fraction(LONG, 4 * LONGER)] * casks] * casks))
        self.check(TURN)
        self.assertIs(makes(value=recipe_with_spares(table=TURN), table=TURN), True)

    def test_other_recipes(self):
        swap = ("swap", 0, 1, (1, 1))
        for value, holds in [
            ((swap,), True), ((swap, swap), False), ((), False), ((swap, ("draw", 2, (1, 1))), True),
            ((swap, ("draw", 0, HALF)), False),
            ((swap, ("draw", 4, HALF)), False), ([swap], False), ((swap, ("move", 0, 2, (1, 1))), False),
            ((swap, ("move", 0, 2, HALF), ("move", 2, 0, (1, 1))), True), ((swap, ("move", 0, 3, HALF)), False),
            ((swap, ("swap", 2, 3, HALF)), True), ((swap, ("keep", 3, (0, 1))), True),
            ((swap, ("keep", 1, (0, 1))), False),
            ((swap, ("add", 0, ())), False), ((swap, ("move", 2, 0, (1, 1))), True),
            ((swap, ("draw", 1, (0, 1))), True),
            ((swap, ("move", 0, 2, HALF), ("draw", 0, (0, 1))), False),
        ]:
            self.assertIs(makes(TURN, value), holds, value)
        self.assertIs(makes(still(2), ()), True)
        self.assertIs(makes(still(2), (("move", 0, 3, (1, 1)),)), False)
        self.assertIs(makes(table([0]), (("draw", 0, (1, 1)),)), True)
        self.assertIs(makes(table([0]), (("move", 0, 1, (1, 1)),)), False)
        self.assertIs(makes(table([0]), (("move", 0, 1, (1, 1)), ("keep", 1, (0, 1)))), True)
        for value in NO_RECIPES:
            self.assertIs(makes(TURN, value), False, value)

    def test_refusals(self):
        for value in NO_TABLES + [still(5), still(8), table(*[[0] * 6] * 6)]:
            with self.subTest(value=value):
                self.refused(InvalidTable, value, recipe_with_spares, value)
                self.refused(InvalidTable, value, makes, value, ())


if __name__ == "__main__":
    unittest.main()
