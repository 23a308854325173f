import unittest
from fractions import Fraction
from itertools import product as choices

from caskyears.bentlines import can_come, curve, first_over, table_for, table_holds
from caskyears.errors import InvalidFill, Unlike
from caskyears.tables import is_table, still
from tests.helper import LONG, LONGER, NONE_OF_ANY, Case, drawing, matrix, number, pair, pairs, table
from tests.test_tables import NO_TABLES

NO_SIZES = NONE_OF_ANY + [
    (), [], [(1, 1)], ((0, 1),), ((1, 1), (-1, 1)), ((2, 2),), ((1, 1), None), ((True, 1),), ([1, 1],), ((1, 1),) * 9,
    (1,), "ab",
    {(1, 1): 0}, ((1, 1), (0, 1)),
]
NO_SHARES = NONE_OF_ANY + [
    [], [(1, 1)], ((-1, 2),), ((1, 1), (3, 2)), ((2, 2),), ((1, 1), None), ((True, 1),), ([1, 1],), (1,), "ab",
    {(1, 1): 0},
    ((LONGER, LONG),), ((1, 1),) * 9 + ((2, 1),),
]


def line(sizes, shares, at):
    """Return how much wine the bent line has at a size."""
    wine = Fraction(0)
    for share, size in sorted(zip(shares, sizes), reverse=True):
        step = min(size, at)
        wine, at = wine + share * step, at - step
    return wine


def corners(sizes, shares):
    """Return the sizes at which the bent line bends."""
    found, at = [Fraction(0)], Fraction(0)
    for _, size in sorted(zip(shares, sizes), reverse=True):
        at += size
        found.append(at)
    return found


def comes(sizes, one, other):
    """Return whether the wine is alike and no corner of either line shows the other's above the one's."""
    if sum(x * y for x, y in zip(sizes, one)) != sum(x * y for x, y in zip(sizes, other)):
        return False
    places = corners(sizes, one) + corners(sizes, other)
    return all(line(sizes, other, at) <= line(sizes, one, at) for at in places)


def beyond(sizes, shares, least):
    """Return the wine beyond a share."""
    return sum(size * (share - least) for size, share in zip(sizes, shares) if share > least)


def mixed(draw, sizes, shares):
    """Return shares behind some exchanges of as much between two casks at a time, which keep all full."""
    wines = [size * share for size, share in zip(sizes, shares)]
    for _ in range(draw.randrange(6) if len(sizes) > 1 else 0):
        first, second = draw.sample(range(len(sizes)), 2)
        much = min(sizes[first], sizes[second]) * Fraction(draw.randrange(5), 4)
        moved = much * (wines[first] / sizes[first] - wines[second] / sizes[second])
        wines[first], wines[second] = wines[first] - moved, wines[second] + moved
    return [wine / size for size, wine in zip(sizes, wines)]


class Lines(Case, unittest.TestCase):
    def check(self, sizes, one, other):
        """Check what is told of numbers; return whether it can come."""
        told = pairs(*sizes), pairs(*one), pairs(*other)
        can = comes(sizes, one, other)
        self.assertIs(can_come(*told), can)
        over = first_over(*told)
        made = table_for(*told)
        if can:
            self.assertIs(over, None)
            self.check_table(sizes, one, other, made)
            self.assertIs(table_holds(*told, made), True)
            return True
        self.assertIs(made, None)
        wines = [sum(x * y for x, y in zip(sizes, shares)) for shares in (one, other)]
        if wines[0] != wines[1]:
            self.assertEqual(over, ("sum",))
            return False
        above = [share for share in one if beyond(sizes, other, share) > beyond(sizes, one, share)]
        self.assertEqual(over, ("over", pair(min(above))))
        return False

    def check_table(self, sizes, one, other, made):
        """Check that a table leads to the other shares."""
        self.assertTrue(is_table(made))
        rows = matrix(made)
        self.assertEqual([sum(column) for column in zip(*rows)], [1] * len(sizes))
        self.assertEqual([sum(x * y for x, y in zip(row, sizes)) for row in rows], list(sizes))
        wines = [size * share for size, share in zip(sizes, one)]
        self.assertEqual([sum(x * y for x, y in zip(row, wines)) for row in rows],
            [x * y for x, y in zip(sizes, other)])

    def test_all_of_few(self):
        shares = [Fraction(0), Fraction(1, 3), Fraction(1, 2), Fraction(1)]
        told = {True: 0, False: 0}
        for sizes in ([1], [1, 1], [1, 2], [3, 2]):
            sizes = [Fraction(size) for size in sizes]
            for one in choices(shares, repeat=len(sizes)):
                for other in choices(shares, repeat=len(sizes)):
                    told[self.check(sizes, list(one), list(other))] += 1
        self.assertGreater(told[True], 40)

    def test_some_of_many(self):
        draw = drawing(91)
        for casks in [2, 3, 4, 5, 8] * 8:
            sizes = [Fraction(draw.randrange(1, 7), draw.randrange(1, 4)) for _ in range(casks)]
            one = [Fraction(draw.randrange(5), 4) for _ in range(casks)]
            other = mixed(draw, sizes, one)
            self.assertIs(self.check(sizes, one, other), True)
            self.check(sizes, other, one)
            self.check(sizes, mixed(draw, sizes, one), mixed(draw, sizes, one))
            self.check(sizes, one, [share / 2 for share in one])

    def test_long_fractions(self):
        draw = drawing(92)
        sizes = [Fraction(draw.randrange(1, LONGER), draw.randrange(1, LONGER)) for _ in range(8)]
        below = [draw.randrange(LONG, LONGER) for _ in range(8)]
        one = [Fraction(draw.randrange(some), some) for some in below]
        mean = sum(x * y for x, y in zip(sizes, one)) / sum(sizes)
        self.assertIs(self.check(sizes, one, [mean] * 8), True)
        self.assertIs(self.check(sizes, [mean] * 8, one), False)
        self.assertIs(self.check([Fraction(LONG), Fraction(LONGER)], [Fraction(1), Fraction(0)],
            [Fraction(0), Fraction(LONG, LONGER)]), True)

    def test_curves(self):
        draw = drawing(93)
        for casks in [1, 2, 3, 8] * 5:
            sizes = [Fraction(draw.randrange(1, 7), draw.randrange(1, 4)) for _ in range(casks)]
            shares = [Fraction(draw.randrange(5), 4) for _ in range(casks)]
            found = self.all_new(curve, pairs(*sizes), pairs(*shares))
            self.assertEqual(found[0], ((0, 1), (0, 1)))
            falling = sorted(set(shares), reverse=True)
            self.assertEqual(len(found), len(falling) + 1)
            for at, share in enumerate(falling):
                inside = [cask for cask in range(casks) if shares[cask] >= share]
                point = sum(sizes[cask] for cask in inside), sum(sizes[cask] * shares[cask] for cask in inside)
                self.assertEqual(found[at + 1], (pair(point[0]), pair(point[1])))
        self.assertEqual(curve(shares=pairs(0, 0), sizes=pairs(1, 2)), [((0, 1), (0, 1)), ((3, 1), (0, 1))])
        self.assertEqual(curve(pairs(2, 1, 3), pairs(1, 0, 1)), [((0, 1), (0, 1)), ((5, 1), (5, 1)), ((6, 1), (5, 1))])

    def test_first_over(self):
        half = Fraction(1, 2)
        for sizes, one, other, over in [
            ([1, 1], [half, half], [1, 0], ("over", (1, 2))), ([1, 1, 1], [1, half, 0], [1, 1, 0], ("sum",)),
            ([1, 1, 1], [half, half, half], [1, half, 0], ("over", (1, 2))),
            ([1, 3], [1, 0], [Fraction(1, 4)] * 2, None),
            ([1, 1, 1, 1], [1, half, half, 0], [1, 1, 0, 0], ("over", (1, 2))),
            ([2, 1, 1], [half, 1, Fraction(1, 4)], [Fraction(5, 8), 1, 0], ("over", (1, 4))),
        ]:
            self.assertEqual(first_over(pairs(*sizes), pairs(*one), pairs(*other)), over)
            self.check([Fraction(size) for size in sizes], [Fraction(share) for share in one],
                [Fraction(share) for share in other])

    def test_what_holds(self):
        sizes, one, other = pairs(1, 3), pairs(1, 0), pairs(Fraction(1, 4), Fraction(1, 4))
        quarter, three = Fraction(1, 4), Fraction(3, 4)
        for value, holds in [
            (table([quarter, quarter], [three, three]), True),
            (table([quarter, quarter], [three, Fraction(1, 2)]), False),
            (table([quarter, three], [three, quarter]), False), (still(2), False), (still(3), False),
            (table([1]), False),
            ([list(row) for row in table([quarter, quarter], [three, three])], False), (None, False),
            (table([quarter, 0], [three, 1]), False), (table([quarter, quarter], [0, 0]), False),
            (table([quarter, Fraction(1, 5)], [three, Fraction(4, 5)]), False),
        ]:
            self.assertIs(table_holds(sizes, one, other, value), holds, value)
        self.assertIs(table_holds(sizes, one, one, still(2)), True)
        self.assertIs(table_holds(pairs(1, 1), pairs(1, 0), pairs(0, 1), table([0, 1], [1, 0])), True)
        # It leads to the shares but not to the same fullness.
        self.assertIs(table_holds(pairs(1, 1), pairs(0, 0), pairs(0, 0), table([1, 1], [0, 0])), False)
        self.assertIs(table_holds(pairs(1, 1), pairs(0, 0), pairs(0, 0), table([1, 0], [0, Fraction(1, 2)])), False)
        self.assertIs(table_holds(value=still(1), other=pairs(1), one=pairs(1), sizes=pairs(5)), True)
        for value in NO_TABLES:
            self.assertIs(table_holds(sizes, one, one, value), False, value)
            self.assertIs(table_holds(sizes, other, one, value), False, value)

    def test_by_name(self):
        named = {"other": pairs(Fraction(1, 4), Fraction(1, 4)), "one": pairs(1, 0), "sizes": pairs(1, 3)}
        self.assertIs(can_come(**named), True)
        self.assertIs(first_over(**named), None)
        self.assertIs(table_holds(value=table_for(**named), **named), True)
        self.assertEqual(number(curve(sizes=pairs(1), shares=pairs(1))[1][0]), 1)


class Refusals(Case, unittest.TestCase):
    def test_all(self):
        sizes, shares = pairs(1, 2), pairs(1, 0)
        for function, further in [(can_come, ()), (first_over, ()), (table_for, ()), (table_holds, (None,))]:
            for value in NO_SIZES:
                with self.subTest(function=function.__name__, value=value):
                    self.refused(InvalidFill, value, function, value, None, None, *further)
            for value in NO_SHARES:
                with self.subTest(function=function.__name__, value=value):
                    self.refused(InvalidFill, value, function, sizes, value, None, *further)
                    self.refused(InvalidFill, value, function, sizes, shares, value, *further)
            for value in ((), pairs(1), pairs(1, 0, 1), pairs(*[0] * 9)):
                self.refused(Unlike, len(value), function, sizes, value, None, *further)
                self.refused(Unlike, len(value), function, sizes, shares, value, *further)

    def test_curve(self):
        for value in NO_SIZES:
            self.refused(InvalidFill, value, curve, value, None)
        for value in NO_SHARES:
            self.refused(InvalidFill, value, curve, pairs(1, 2), value)
        for value in ((), pairs(1), pairs(1, 0, 1), pairs(*[0] * 9)):
            self.refused(Unlike, len(value), curve, pairs(1, 2), value)


if __name__ == "__main__":
    unittest.main()
