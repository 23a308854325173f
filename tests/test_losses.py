import unittest
from fractions import Fraction
from itertools import product as choices

from caskyears.errors import InvalidCellar, InvalidFill, InvalidNumber, InvalidTable, Unlike
from caskyears.fills import all_of, size
from caskyears.losses import first_passed, more_left, passes, waited, ways_round
from caskyears.recipes import worked
from caskyears.tables import still
from tests.helper import LONG, LONGER, NONE_OF_ANY, Case, drawing, fill, matrix, number, pair, pairs, product
from tests.helper import some_cellar, some_table, table, unit
from tests.test_fills import NO_CELLARS
from tests.test_tables import HALF as HALF_TABLE
from tests.test_tables import NO_TABLES

ONE_EACH = tuple(fill(**{kind: 1}) for kind in "abcdefgh")
NO_FACTORS = NONE_OF_ANY + [
    (), [(1, 2), (1, 2)], ((1, 2), (3, 2)), ((1, 2), (-1, 2)), ((2, 4), (1, 2)), ((1, 2), None), ((True, 1), (1, 2)),
    ((1, 2), [1, 2]), (1, 2), ((1, 2),) * 9, {0: (1, 2)}, ((LONGER, LONG), (1, 2)),
]


def some_factors(draw, casks, of=(0, Fraction(1, 3), Fraction(1, 2), 1)):
    """Return factors, some of them alike."""
    return pairs(*[draw.choice(of) for _ in range(casks)])


def both_ways(of, factors, cellar):
    """Return the cellars of waiting and then working, and of working and then waiting, by the functions for each."""
    return worked(of, waited(cellar, factors)), waited(worked(of, cellar), factors)


class Waiting(Case, unittest.TestCase):
    def test_waited(self):
        draw = drawing(141)
        for casks in [1, 2, 3, 8] * 4:
            cellar, factors = some_cellar(draw, casks), some_factors(draw, casks)
            found = waited(cellar, factors)
            for inside, left, factor in zip(cellar, found, factors):
                wanted = [(kind, pair(number(much) * number(factor))) for kind, much in inside if factor != (0, 1)]
                self.assertEqual(left, tuple(wanted))
        self.assertEqual(waited(factors=pairs(1, 0), cellar=ONE_EACH[:2]), (ONE_EACH[0], ()))

    def test_sequences(self):
        draw = drawing(142)
        seen = {True: 0, False: 0}
        for casks in [1, 2, 3, 4] * 25:
            of, factors = some_table(draw, casks, holes=0.6), some_factors(draw, casks, of=(0, Fraction(1, 2), 1))
            first, second = both_ways(of, factors, ONE_EACH[:casks])
            self.assertIs(passes(of, factors), first == second)
            seen[first == second] += 1
            wanted = None
            for source, goal in choices(range(casks), repeat=2):
                if wanted is None and of[goal][source] != (0, 1) and factors[source] != factors[goal]:
                    wanted = (source, goal)
            self.assertEqual(first_passed(of, factors), wanted)
        self.assertGreater(min(seen.values()), 20)
        self.assertEqual(first_passed(factors=pairs(1, 0, 1), table=table([0, 0, 1], [0, 1, 0], [1, 0, 0])), None)
        self.assertEqual(first_passed(table([0, 1], [1, 0]), pairs(0, 1)), (0, 1))
        self.assertEqual(first_passed(table([1, 1], [0, 0]), pairs(0, 1)), (1, 0))
        self.assertIs(passes(factors=pairs(1, 0), table=still(2)), True)
        near = Fraction(LONG, LONGER)
        self.assertIs(passes(HALF_TABLE, pairs(near, near - Fraction(1, LONGER))), False)

    def test_more_left(self):
        draw = drawing(143)
        seen = {"waiting": 0, "pouring": 0, "alike": 0, "neither": 0}
        for casks in [1, 2, 3] * 60:
            of, factors = some_table(draw, casks, holes=0.6), some_factors(draw, casks)
            signs = []
            for cask in range(casks):
                lone = tuple(fill(a=1) if at == cask else () for at in range(casks))
                first, second = (number(size(all_of(cellar))) for cellar in both_ways(of, factors, lone))
                signs.append(first - second)
            up, down = any(sign > 0 for sign in signs), any(sign < 0 for sign in signs)
            wanted = "neither" if up and down else "waiting" if up else "pouring" if down else "alike"
            self.assertEqual(more_left(of, factors), wanted)
            seen[wanted] += 1
        self.assertGreater(min(seen.values()), 10, seen)
        self.assertEqual(more_left(factors=pairs(1, 0), table=HALF_TABLE), "waiting")
        self.assertEqual(more_left(table([0, 1], [1, 0]), pairs(1, 0)), "neither")
        self.assertEqual(more_left(table([0, 0], [0, 0]), pairs(1, 0)), "alike")
        # Both bring as much of the first cask into the second and the third, one with more left and one with less.
        spread = table([0, 0, 0], [Fraction(1, 2), 1, 0], [Fraction(1, 2), 0, 1])
        self.assertEqual(more_left(spread, pairs(Fraction(1, 2), 1, 0)), "alike")
        self.assertIs(passes(spread, pairs(Fraction(1, 2), 1, 0)), False)

    def test_ways_round(self):
        draw = drawing(144)
        for casks in [1, 2, 3, 8]:
            of, factors = some_table(draw, casks), some_factors(draw, casks)
            once = [[entry * number(factor) for entry, factor in zip(row, factors)] for row in matrix(of)]
            wanted = unit(casks)
            for rounds in range(7):
                self.assertEqual(matrix(ways_round(of, factors, rounds)), wanted)
                wanted = product(once, wanted)
            whole = matrix(ways_round(of, factors, 150))
            self.assertEqual(matrix(ways_round(of, factors, 300)), product(whole, whole))
        self.assertEqual(ways_round(rounds=300, factors=pairs(Fraction(1, 2)), table=table([1])), (((1, 2**300),),))
        self.assertEqual(ways_round(table([1]), pairs(Fraction(1, 2)), 301), (((1, 2**301),),))
        self.assertEqual(ways_round(HALF_TABLE, pairs(0, 0), 0), still(2))
        self.assertEqual(ways_round(HALF_TABLE, pairs(0, 0), 1), table([0, 0], [0, 0]))
        self.assertEqual(ways_round(HALF_TABLE, pairs(1, 1), 1), HALF_TABLE)
        near = Fraction(LONG, LONGER)
        found = ways_round(table([near, 0], [1 - near, 1]), pairs(near, near), 300)
        self.assertEqual(found[0][0], pair(near**600))
        self.assertEqual(number(found[0][0]) + number(found[1][0]), near**300)


class Refusals(Case, unittest.TestCase):
    def test_tables_and_cellars(self):
        for value in NO_TABLES:
            with self.subTest(value=value):
                for function in (passes, first_passed, more_left):
                    self.refused(InvalidTable, value, function, value, None)
                self.refused(InvalidTable, value, ways_round, value, None, -1)
        for value in NO_CELLARS:
            with self.subTest(value=value):
                self.refused(InvalidCellar, value, waited, value, None)

    def test_factors(self):
        for value in NO_FACTORS:
            with self.subTest(value=value):
                for function in (passes, first_passed, more_left):
                    self.refused(InvalidFill, value, function, HALF_TABLE, value)
                self.refused(InvalidFill, value, ways_round, HALF_TABLE, value, -1)
                self.refused(InvalidFill, value, waited, ONE_EACH[:2], value)
        for value in (pairs(1), pairs(1, 1, 1)):
            for function in (passes, first_passed, more_left):
                self.refused(Unlike, len(value), function, HALF_TABLE, value)
            self.refused(Unlike, len(value), ways_round, HALF_TABLE, value, -1)
            self.refused(Unlike, len(value), waited, factors=value, cellar=ONE_EACH[:2])
        self.refused(InvalidNumber, -1, ways_round, HALF_TABLE, pairs(1, 1), -1)
        self.refused(InvalidNumber, -(10**40), ways_round, rounds=-(10**40), factors=pairs(1, 1), table=HALF_TABLE)


if __name__ == "__main__":
    unittest.main()
