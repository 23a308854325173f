import unittest
from fractions import Fraction
from itertools import combinations

from caskyears.alike import ahead, ahead_holds, alike, needless, parting, passing
from caskyears.errors import InvalidCellar, InvalidNumber, InvalidRecipe, InvalidTable, Unlike
from caskyears.fills import is_cellar
from caskyears.recipes import same_way, worked
from caskyears.tables import still
from tests.helper import ECHO, LONG, LONGER, NONE_OF_ANY, Case, amounts_of, drawing, fill, matrix, number, pair, pairs
from tests.helper import rank_by_rows, some_cellar, some_recipe, some_table, table
from tests.test_deeds import HALF, RED, WHITE
from tests.test_fills import NO_CELLARS
from tests.test_recipes import NO_RECIPES, TOO_FAR
from tests.test_tables import NO_TABLES

MOVE, ALL = ("move", 0, 1, HALF), ("move", 0, 1, (1, 1))
HALF_TABLE = table([Fraction(1, 2), 0], [Fraction(1, 2), 1])


def left_of_one(recipe, casks, source):
    """Return the list of what a recipe leaves in each cask of one part that is in one of them alone."""
    cellar = tuple(fill(a=1) if cask == source else () for cask in range(casks))
    return amounts_of(same_way(recipe, cellar), "a")


def first_parting(one, other, casks):
    """Return what parts two recipes, by going through all casks."""
    for source in range(casks):
        mine, theirs = left_of_one(one, casks, source), left_of_one(other, casks, source)
        for goal in range(casks):
            if mine[goal] != theirs[goal]:
                return source, goal, pair(mine[goal]), pair(theirs[goal])
    return None


class Recipes(Case, unittest.TestCase):
    def test_two_recipes(self):
        draw = drawing(41)
        told = {True: 0, False: 0}
        for casks in [1, 2, 2, 2, 3, 8] * 12:
            one, other = some_recipe(draw, casks, draw.randrange(4)), some_recipe(draw, casks, draw.randrange(4))
            parts = first_parting(one, other, casks)
            self.assertIs(alike(one, other, casks), parts is None)
            self.assertEqual(parting(one, other, casks), parts)
            passes = first_parting(one + other, other + one, casks) is None
            self.assertIs(passing(one, other, casks), passes)
            told[passes] += 1
            told[parts is None] += 1
        self.assertGreater(min(told.values()), 10)

    def test_alike_in_other_words(self):
        for one, other, casks in [
            ((MOVE, ALL), (ALL,), 2), ((), (("draw", 0, (0, 1)),), 1),
            ((("draw", 0, (1, 3)),), (("keep", 0, (2, 3)),), 1),
            ((("swap", 0, 1, HALF),), (("swap", 1, 0, HALF),) * 3, 2), ((), (("swap", 6, 7, (1, 1)),) * 2, 8),
            ((("keep", 0, HALF),) * 40, (("keep", 0, (1, 2**40)),), 1),
        ]:
            self.assertIs(alike(one, other, casks), True)
            self.assertIs(parting(one, other, casks), None)

    def test_the_least_share_parts(self):
        one, other = (("draw", 7, pair(Fraction(LONG, LONGER))),), (("draw", 7, pair(Fraction(LONG - 1, LONGER))),)
        self.assertIs(alike(one, other, 8), False)
        mine, theirs = Fraction(LONGER - LONG, LONGER), Fraction(LONGER - LONG + 1, LONGER)
        self.assertEqual(parting(one, other, 8), (7, 7, pair(mine), pair(theirs)))
        self.assertEqual(parting(casks=3, other=(), one=(("move", 2, 1, (1, 1)),)), (2, 1, (1, 1), (0, 1)))
        self.assertEqual(parting((("swap", 1, 2, (1, 1)),), (), 3), (1, 1, (0, 1), (1, 1)))

    def test_by_name(self):
        self.assertIs(alike(casks=2, other=(), one=()), True)
        self.assertIs(passing(casks=2, other=(MOVE,), one=(("draw", 1, HALF),)), False)
        self.assertEqual(needless(casks=2, recipe=(MOVE, ALL)), [0])

    def test_needless(self):
        draw = drawing(42)
        for casks in [1, 2, 2, 3] * 10:
            recipe = some_recipe(draw, casks, 5)
            rest = [recipe[:at] + recipe[at + 1 :] for at in range(len(recipe))]
            wanted = [at for at in range(len(recipe)) if first_parting(rest[at], recipe, casks) is None]
            self.assertEqual(self.all_new(needless, recipe, casks), wanted)
        self.assertEqual(needless((), 1), [])
        self.assertEqual(needless((MOVE, ("draw", 0, (0, 1)), ALL), 2), [0, 1])
        self.assertEqual(needless((("keep", 0, (0, 1)),) * 40, 1), list(range(40)))
        self.assertEqual(needless((("keep", 0, HALF),) * 40, 1), [])

    def test_refusals(self):
        for function in (alike, parting, passing):
            for value in NO_RECIPES:
                with self.subTest(value=value):
                    self.refused(InvalidRecipe, value, function, value, None, 0)
                    self.refused(InvalidRecipe, value, function, (), value, 0)
                    self.refused(InvalidRecipe, value, function, TOO_FAR[0], value, 2)
            for value in TOO_FAR:
                self.refused(InvalidRecipe, value, function, value, (), 2)
                self.refused(InvalidRecipe, value, function, (), value, 2)
                self.refused(InvalidRecipe, value, function, casks=2, other=TOO_FAR[0], one=value)
                self.refused(InvalidNumber, 9, function, value, value, 9)
            self.refused(InvalidNumber, 0, function, (), (), 0)
        for value in NO_RECIPES:
            self.refused(InvalidRecipe, value, needless, value, 0)
        self.refused(InvalidNumber, 9, needless, TOO_FAR[0], 9)
        self.refused(InvalidRecipe, TOO_FAR[1], needless, TOO_FAR[1], 2)


def corners(rows, right):
    """Return all lists from 0 on with free columns that the rows bring to the right side, by all sets of columns."""
    found = []
    for many in range(len(rows[0]) + 1):
        for columns in combinations(range(len(rows[0])), many):
            part = [[row[at] for at in columns] for row in rows]
            if many and rank_by_rows(part) < many:
                continue
            point = only(part, right)
            if point is not None and min(point, default=0) >= 0:
                whole = [Fraction(0)] * len(rows[0])
                for at, entry in zip(columns, point):
                    whole[at] = entry
                if whole not in found:
                    found.append(whole)
    return found


def only(rows, right):
    """Return the list that rows with free columns bring to the right side, None if there is none."""
    lines = [list(row) + [entry] for row, entry in zip(rows, right)]
    width = len(rows[0])
    for column in range(width):
        at = next(at for at in range(column, len(lines)) if lines[at][column])
        lines[column], lines[at] = lines[at], lines[column]
        lines[column] = [entry / Fraction(lines[column][column]) for entry in lines[column]]
        for other in range(len(lines)):
            if other != column:
                lines[other] = [x - lines[other][column] * y for x, y in zip(lines[other], lines[column])]
    return None if any(line[width] for line in lines[width:]) else [line[width] for line in lines[:width]]


def expected(of, cellar):
    """Return the word that ahead tells, and the kind of none, by going through all corners."""
    kinds = sorted({kind for inside in cellar for kind, _ in inside})
    rows, word = matrix(of), "one"
    if any(all(row[at] == 0 for row in rows) for at in range(len(rows))):
        word = "many"
    for kind in kinds:
        found = corners(rows, amounts_of(cellar, kind))
        if not found:
            return "none", kind
        if len(found) > 1:
            word = "many"
    return word, None


class Ahead(Case, unittest.TestCase):
    def check(self, of, cellar):
        """Check what is told against all corners; return the word."""
        word, kind = expected(of, cellar)
        found = ahead(of, cellar)
        self.assertIs(type(found), tuple)
        self.assertEqual(found[0], word)
        if word == "none":
            self.assertEqual(found[1], kind)
            self.assertEqual(len(found), 3)
            self.assertIs(type(found[2]), tuple)
            prices, rows = [number(entry) for entry in found[2]], matrix(of)
            for at in range(len(rows)):
                self.assertGreaterEqual(sum(price * row[at] for price, row in zip(prices, rows)), 0)
            self.assertLess(sum(x * y for x, y in zip(prices, amounts_of(cellar, kind))), 0)
        else:
            self.assertEqual(len(found), 2 if word == "one" else 3)
            for other in found[1:]:
                self.assertTrue(is_cellar(other))
                self.assertEqual(worked(of, other), cellar)
        if word == "many":
            self.assertNotEqual(found[1], found[2])
        self.assertIs(ahead_holds(of, cellar, found), True)
        return word

    def test_against_all_corners(self):
        draw = drawing(43)
        words = {"one": 0, "many": 0, "none": 0}
        for casks in [1, 2, 3, 4] * 60:
            of = some_table(draw, casks, holes=draw.choice([0.2, 0.6]))
            if draw.random() < 0.6:
                of = blended(draw, of)
            cellar = some_cellar(draw, casks, "ab")
            if draw.random() < 0.7:
                cellar = worked(of, cellar)
            words[self.check(of, cellar)] += 1
        self.assertGreater(min(words.values()), 15, words)

    def test_of_no_wine(self):
        self.assertEqual(ahead(still(3), ((), (), ())), ("one", ((), (), ())))
        self.assertEqual(self.check(table([0]), ((),)), "many")
        self.assertEqual(self.check(table([1, 0], [0, 0]), ((), ())), "many")
        self.assertEqual(self.check(table([Fraction(1, LONGER)]), ((),)), "one")
        self.assertEqual(self.check(table(*[[0] * 8] * 8), ((),) * 8), "many")

    def test_any_kind_may_stand_in_what_is_lost(self):
        self.assertEqual(self.check(table([1, 0], [0, 0]), (RED, ())), "many")
        self.assertIs(ahead_holds(table([0]), ((),), ("many", (RED,), (WHITE,))), True)
        self.assertIs(ahead_holds(table([0]), ((),), ("many", ((),), (WHITE,))), True)
        self.assertIs(ahead_holds(table([0]), ((),), ("one", ((),))), False)

    def test_the_first_kind_without_one(self):
        turn = table([0, 0], [1, 1])
        both = (fill(a=1, b=1), fill(b=1, c=1))
        self.assertEqual(ahead(table=turn, cellar=both)[:2], ("none", "a"))
        self.assertEqual(ahead(turn, (fill(c=1), fill(a=1, b=1)))[:2], ("none", "c"))
        self.assertIs(ahead_holds(turn, both, ("none", "a", pairs(-1, 0))), True)
        self.assertIs(ahead_holds(turn, both, ("none", "b", pairs(-2, 1))), False)
        self.assertIs(ahead_holds(turn, both, ("none", "b", pairs(-1, 0))), False)

    def test_eight_casks(self):
        draw = drawing(44)
        of = some_table(draw, 8, most=1000)
        cellar = some_cellar(draw, 8, most=1000)
        found = ahead(of, worked(of, cellar))
        self.assertEqual(found, ("one", cellar))
        evened = table(*[[Fraction(1, 8)] * 8] * 8)
        self.assertEqual(ahead(evened, (RED,) * 8)[0], "many")
        self.assertIs(ahead_holds(evened, (RED,) * 8, ahead(evened, (RED,) * 8)), True)
        uneven = ahead(evened, (RED,) * 7 + (fill(red=5),))
        self.assertEqual(uneven[:2], ("none", "red"))
        self.assertIs(ahead_holds(evened, (RED,) * 7 + (fill(red=5),), uneven), True)

    def test_long_fractions(self):
        share = Fraction(LONG, LONGER)
        of = table([share, 0], [1 - share, 1])
        cellar = (fill(a=Fraction(LONGER, LONG)), fill(a=Fraction(1, LONGER)))
        self.assertEqual(ahead(of, worked(of, cellar)), ("one", cellar))
        self.assertEqual(self.check(of, cellar), "none")

    def test_what_holds_and_what_does_not(self):
        one, none = (fill(red=1), fill(red=3)), (fill(red=2), fill(red=1))
        for cellar, value, holds in [
            (one, ("one", (fill(red=2), fill(red=2))), True), (one, ("one", (fill(red=2), fill(red=1))), False),
            (one, ("one", [fill(red=2), fill(red=2)]), False), (one, ["one", (fill(red=2), fill(red=2))], False),
            (one, ("one", (fill(red=2), fill(red=2)), ()), False), (one, ("many", (fill(red=2), fill(red=2))), False),
            (one, ("many", (fill(red=2), fill(red=2)), (fill(red=2), fill(red=2))), False), (one, ("one", None), False),
            (one, ("one", (fill(red=2),)), False), (one, ("none", "red", pairs(-1, 1)), False),
            (one, ("one", ()), False),
            (none, ("none", "red", pairs(-1, 1)), True), (none, ("none", "red", pairs(-3, 3)), True),
            (none, ("none", "red", pairs(-1, 2)), False), (none, ("none", "red", pairs(1, 1)), False),
            (none, ("none", "red", pairs(-1, Fraction(1, 2))), False), (none, ("none", "red", pairs(-1)), False),
            (none, ("none", "red", pairs(-1, 1, 0)), False), (none, ("none", "red", list(pairs(-1, 1))), False),
            (none, ("none", "white", pairs(-1, 1)), False), (none, ("none", "Red", pairs(-1, 1)), False),
            (none, ("none", None, pairs(-1, 1)), False), (none, ("none", "red", ((-2, 2), (1, 1))), False),
            (none, ("none", "red", None), False), (none, ("none", "red"), False),
            (none, ("none", "red", pairs(-1, 1), 1), False),
            (none, ("one", none), False), (none, ("many", none, one), False),
            (none, ("nil", "red", pairs(-1, 1)), False),
        ]:
            self.assertIs(ahead_holds(value=value, cellar=cellar, table=HALF_TABLE), holds, value)
        for value in NONE_OF_ANY + [(), [], ({}, 1), ([], []), ("one", "red"), ("none", [], []),
            (ECHO, (fill(red=2), fill(red=2))),
                      (ECHO, "red", pairs(-1, 1)), ("none", ECHO, pairs(-1, 1)), ("two", one, none),
            (None, "red", pairs(-1, 1))]:
            self.assertIs(ahead_holds(HALF_TABLE, one, value), False, value)
            self.assertIs(ahead_holds(HALF_TABLE, none, value), False, value)

    def test_one_does_not_hold_where_there_are_several(self):
        evened = table([Fraction(1, 2)] * 2, [Fraction(1, 2)] * 2)
        cellar, ones = (RED, RED), (RED, RED)
        self.assertIs(ahead_holds(evened, cellar, ("one", ones)), False)
        self.assertIs(ahead_holds(evened, cellar, ("many", ones, (fill(red=8), ()))), True)
        self.assertIs(ahead_holds(evened, cellar, ("many", ones, ones)), False)
        self.assertIs(ahead_holds(evened, cellar, ("many", ones, (fill(red=7), ()))), False)
        self.assertIs(ahead_holds(evened, cellar, ("many", (fill(red=7), ()), ones)), False)
        self.assertIs(ahead_holds(evened, cellar, ("many", ones, [fill(red=8), ()])), False)
        self.assertIs(ahead_holds(evened, cellar, ("many", ones, (fill(red=8), (), ()))), False)

    def test_refusals(self):
        for value in NO_TABLES:
            with self.subTest(value=value):
                self.refused(InvalidTable, value, ahead, value, None)
                self.refused(InvalidTable, value, ahead_holds, value, None, None)
        for value in NO_CELLARS:
            with self.subTest(value=value):
                self.refused(InvalidCellar, value, ahead, still(2), value)
                self.refused(InvalidCellar, value, ahead_holds, still(2), value, None)
        self.refused(Unlike, 2, ahead, still(3), (RED, WHITE))
        self.refused(Unlike, 2, ahead_holds, still(1), (RED, WHITE), None)


def blended(draw, of):
    """Return a table of which each column is a mean of two columns of another one, so that some are not free."""
    rows, columns = matrix(of), []
    for _ in rows:
        one, other = draw.randrange(len(rows)), draw.randrange(max(1, len(rows) - 1))
        columns.append([(row[one] + row[other]) / 2 for row in rows])
    return table(*[[column[at] for column in columns] for at in range(len(rows))])


if __name__ == "__main__":
    unittest.main()
