import unittest
from fractions import Fraction
from itertools import combinations, product as choices

from caskyears.errors import InvalidDeed, InvalidFraction, InvalidNumber
from caskyears.levels import is_level, least_gap, level_holds, level_pairs, levelled, levellings
from caskyears.tables import still
from tests.helper import LONG, LONGER, NONE_OF_ANY, Case, drawing, matrix, number, pair, pairs, table, unit

NO_PAIRS = NONE_OF_ANY + [
    (), (0,), (0, 1, 2), [0, 1], (0, 0), (1, 1), (-1, 0), (0, -1), (0, 4), (4, 0), (True, 0), (0, True), (0, None),
    ("0", "1"),
    (0, [1]), ((0, 1), 2), {0: 1, 2: 3}, "01", (0, 10**59),
]


def level(amounts, first, second):
    """Return the amounts behind one levelling."""
    middle = Fraction(amounts[first] + amounts[second], 2)
    return [middle if at in (first, second) else amount for at, amount in enumerate(amounts)]


def levelled_rows(casks, pairs_told):
    """Return the matrix of levellings, worked row by row."""
    rows = unit(casks)
    for first, second in pairs_told:
        middle = [(x + y) / 2 for x, y in zip(rows[first], rows[second])]
        rows[first], rows[second] = middle, middle
    return rows


class Levelling(Case, unittest.TestCase):
    def test_tables(self):
        draw = drawing(71)
        for casks in range(2, 9):
            for many in (0, 1, 5, 20):
                told = [tuple(draw.sample(range(casks), 2)) for _ in range(many)]
                rows = levelled_rows(casks, told)
                self.assertEqual(matrix(levelled(casks, told)), rows)
                self.assertIs(is_level(casks, told), all(entry == Fraction(1, casks) for row in rows for entry in row))
        self.assertEqual(levelled(1, []), still(1))
        self.assertEqual(levelled(pairs=[(1, 0)], casks=2), table([Fraction(1, 2)] * 2, [Fraction(1, 2)] * 2))

    def test_sixty_pairs(self):
        told = [(at % 8, (at * 3 + 1) % 8) for at in range(80) if at % 8 != (at * 3 + 1) % 8][:60]
        self.assertEqual(matrix(levelled(8, told)), levelled_rows(8, told))
        self.assertIs(is_level(8, told), False)
        self.assertIs(is_level(2, [(0, 1)] * 60), True)
        self.assertIs(is_level(3, [(0, 1), (1, 2)] * 30), False)

    def test_is_level(self):
        four = [(0, 1), (2, 3), (0, 2), (1, 3)]
        self.assertIs(is_level(4, four), True)
        self.assertIs(is_level(casks=4, pairs=four[:3]), False)
        self.assertIs(is_level(4, [(3, 1), (0, 2), (1, 0), (2, 3), (0, 1)]), True)
        self.assertIs(is_level(5, four), False)
        self.assertIs(is_level(1, []), True)
        self.assertIs(is_level(2, []), False)

    def test_fewest_by_going_through(self):
        for casks, most in ((2, 2), (3, 5), (4, 4)):
            ways = list(combinations(range(casks), 2))
            found = [many for many in range(most + 1) if any(is_level(casks, list(told))
                for told in choices(ways, repeat=many))]
            self.assertEqual(levellings(casks), found[0] if found else None)

    def test_levellings(self):
        for casks in range(1, 200):
            double = casks & (casks - 1) == 0
            self.assertEqual(levellings(casks), casks * (casks.bit_length() - 1) // 2 if double else None)
        self.assertEqual(levellings(casks=2**195), 195 * 2**194)
        self.assertIs(levellings(2**195 + 1), None)
        self.assertIs(levellings(2**195 - 1), None)
        self.assertIs(levellings(10**59), None)

    def test_level_pairs(self):
        for casks in range(1, 9):
            fewest = levellings(casks)
            if fewest is None:
                self.assertIs(level_pairs(casks), None)
            else:
                told = self.all_new(level_pairs, casks)
                self.assertIs(type(told), list)
                self.assertEqual(len(told), fewest)
                self.assertIs(is_level(casks, told), True)
                self.assertIs(level_holds(casks, told), True)
        self.assertEqual(level_pairs(casks=1), [])

    def test_what_holds(self):
        four = [(0, 1), (2, 3), (0, 2), (1, 3)]
        for casks, value, holds in [
            (4, four, True), (4, [(1, 0), (3, 2), (1, 3), (2, 0)], True), (4, four + [(0, 1)], False),
            (4, four[:3], False),
            (4, tuple(four), False), (4, [(0, 1), (2, 3), (0, 1), (2, 3)], False),
            (4, [list(entry) for entry in four], False),
            (4, [(0, 1), (2, 3), (0, 2), (1, 4)], False), (4, [(0, 1), (2, 3), (0, 2), (1, -1)], False),
            (4, [(0, 1), (2, 3), (0, 2), (1, 1)], False),
            (4, [(0, 1), (2, 3), (0, 2), None], False), (4, [(0, 1), (2, 3), (0, 2), (True, 3)], False), (1, [], True),
            (1, (), False),
            (2, [(0, 1)], True), (2, [], False), (2, [(0, 1), (0, 1)], False), (3, [], False), (3, None, False),
            (4, None, False),
            (3, [(0, 1), (1, 2)], False), (8, four, False), (4, [(0, 1), (2, 3), (0, 2), (1, 3, 0)], False),
            (4, {1: 2}, False),
        ]:
            self.assertIs(level_holds(casks, value), holds, (casks, value))
        for value in NONE_OF_ANY:
            self.assertIs(level_holds(value=value, casks=2), False, value)


class Gaps(Case, unittest.TestCase):
    def by_going_through(self, amounts, many):
        """Return the least gap behind at most so many levellings of all kinds."""
        amounts = [number(entry) for entry in amounts]
        best = max(amounts) - min(amounts)
        if many:
            for first, second in combinations(range(len(amounts)), 2):
                best = min(best, number(self.by_going_through([pair(entry) for entry in level(amounts, first, second)],
                    many - 1)))
        return pair(best)

    def test_against_all_sequences(self):
        draw = drawing(72)
        for casks, many in choices(range(2, 6), range(4)):
            for _ in range(2):
                amounts = pairs(*[Fraction(draw.randrange(6), draw.randrange(1, 4)) for _ in range(casks)])
                self.assertEqual(least_gap(amounts, many), self.by_going_through(amounts, many))
        amounts = pairs(7, Fraction(1, 3), 0, Fraction(5, 2), 1)
        self.assertEqual(least_gap(amounts, 4), self.by_going_through(amounts, 4))

    def test_edges(self):
        self.assertEqual(least_gap(pairs(1, 1, 1, 1, 1), 0), (0, 1))
        self.assertEqual(least_gap(pairs(0, 0), 4), (0, 1))
        self.assertEqual([least_gap((), 2), least_gap(pairs(5), 3)], [(0, 1), (0, 1)])
        self.assertEqual(least_gap(pairs(3, 1), 0), (2, 1))
        self.assertEqual(least_gap(many=1, amounts=pairs(3, 1)), (0, 1))
        self.assertEqual(least_gap(pairs(1, 0, 0, 0), 4), (0, 1))
        self.assertEqual(least_gap(pairs(1, 0, 0, 0), 3), (0, 1))
        self.assertEqual(least_gap(pairs(1, 0, 0, 0), 2), (1, 2))
        self.assertEqual(least_gap(pairs(0, 0, 0, 0, 1), 3), (1, 4))
        self.assertEqual(least_gap(pairs(1, 0, 0), 3), (1, 8))
        self.assertEqual(least_gap(pairs(1, 0, 0), 4), (1, 16))
        amounts = pairs(Fraction(LONG, LONGER), Fraction(LONGER, LONG), LONG, 0)
        self.assertEqual(least_gap(amounts, 2), self.by_going_through(amounts, 2))

    def test_refusals(self):
        for value in NONE_OF_ANY + [(-1, 1), (2, 2), [1, 2], (1, 0), (True, 1)]:
            with self.subTest(value=value):
                self.refused(InvalidFraction, value, least_gap, ((1, 1), value, (2, 2)), 9)
        for many in (-1, 5, 10**40):
            self.refused(InvalidNumber, many, least_gap, pairs(1, 2), many)
            self.refused(InvalidNumber, many, least_gap, many=many, amounts=pairs(0, 0, 0, 0, 0))


class Refusals(Case, unittest.TestCase):
    def test_casks(self):
        for casks in (0, -1, 9, 10**40):
            self.refused(InvalidNumber, casks, levelled, casks, [None])
            self.refused(InvalidNumber, casks, is_level, casks, [None])
            self.refused(InvalidNumber, casks, level_pairs, casks)
            self.refused(InvalidNumber, casks, level_holds, casks, None)
        for casks in (0, -1, 10**59 + 1, 2**200):
            self.refused(InvalidNumber, casks, levellings, casks)

    def test_pairs(self):
        for value in NO_PAIRS:
            with self.subTest(value=value):
                self.refused(InvalidDeed, value, levelled, 4, [(0, 1), value, None])
                self.refused(InvalidDeed, value, is_level, pairs=[(3, 1), value, (0, 0)], casks=4)
        self.refused(InvalidDeed, (0, 1), levelled, 1, [(0, 1)])
        self.refused(InvalidDeed, (2, 1), is_level, 2, [(2, 1)])


if __name__ == "__main__":
    unittest.main()
