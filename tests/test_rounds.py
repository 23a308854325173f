import unittest
from fractions import Fraction
from math import gcd, lcm

from caskyears.errors import InvalidCellar, InvalidFraction, InvalidNumber, InvalidTable, TooMany, Unlike
from caskyears.recipes import worked
from caskyears.rounds import after, limits, near, period, rings
from caskyears.tables import power, still
from tests.helper import LONG, LONGER, NONE_OF_ANY, Case, drawing, fill, matrix, pair, product, some_cellar, some_table
from tests.helper import table, unit
from tests.test_deeds import RED, WHITE
from tests.test_fills import NO_CELLARS
from tests.test_tables import HALF, NO_TABLES

TURN = table([0, 1], [1, 0])


def table_of_ways(casks, ways):
    """Return the table of a dict, by casks, of dicts of shares by the casks they go to."""
    return table(*[[ways.get(source, {}).get(goal, 0) for source in range(casks)] for goal in range(casks)])


def ring_table(*sizes):
    """Return the table of turning rings of so many casks, side by side."""
    ways, first = {}, 0
    for size in sizes:
        for at in range(size):
            ways[first + at] = {first + (at + 1) % size: 1}
        first += size
    return table_of_ways(first, ways)


# Two rings, of periods 2 and 3, and casks outside: one feeds both, one is fed, one loses, one feeds a loser.
MIXED = table_of_ways(8, {
    0: {1: 1}, 1: {0: 1}, 2: {3: 1}, 3: {4: 1}, 4: {2: 1},
    5: {0: Fraction(1, 3), 2: Fraction(1, 3), 6: Fraction(1, 6)}, 6: {6: Fraction(1, 2), 3: Fraction(1, 4)},
    7: {5: Fraction(1, 2)},
})
# A ring of period 2 with four casks, fed by casks outside that go round among themselves.
SLOW = table_of_ways(7, {
    0: {2: Fraction(1, 3), 3: Fraction(2, 3)}, 1: {2: Fraction(1, 2), 3: Fraction(1, 2)},
    2: {0: Fraction(1, 4), 1: Fraction(3, 4)},
    3: {1: 1}, 4: {5: 1}, 5: {4: Fraction(1, 2), 0: Fraction(1, 2)},
    6: {4: Fraction(1, 5), 2: Fraction(1, 5), 6: Fraction(1, 5)},
})
EVERY = [
    TURN, HALF, MIXED, SLOW, still(1), still(8), table([0]), table([Fraction(1, 2)]), ring_table(3), ring_table(8),
    ring_table(3, 5),
    ring_table(2, 3), ring_table(1, 7), ring_table(4, 4), table(*[[Fraction(1, 8)] * 8] * 8), table([0, 1], [0, 0]),
    table([1, 1], [0, 0]),
    table_of_ways(4, {0: {1: 1}, 1: {2: 1}, 2: {0: Fraction(1, 2), 3: Fraction(1, 2)}, 3: {0: 1}}),
    table_of_ways(4, {0: {1: 1}, 1: {2: 1}, 2: {0: Fraction(1, 2), 1: Fraction(1, 2)}, 3: {3: Fraction(9, 10)}}),
    table_of_ways(3, {0: {1: 1}, 1: {0: Fraction(99, 100)}, 2: {2: 1}}),
]


def goals_by_rounds(of, rounds):
    """Return a list, round by round from the first one, of the set of casks that something of each cask is in."""
    rows = matrix(of)
    straight = [{goal for goal in range(len(rows)) if rows[goal][source]} for source in range(len(rows))]
    found = [straight]
    for _ in range(rounds - 1):
        found.append([set().union(*[straight[goal] for goal in goals]) for goals in found[-1]])
    return found


def rings_by_ways(of):
    """Return the rings by following what is in each cask round by round."""
    casks, rows = range(len(of)), matrix(of)
    reach = [set().union(*goals) for goals in zip(*goals_by_rounds(of, len(of)))]
    found = set()
    for cask in casks:
        ring = tuple(sorted(reach[cask]))
        whole = all(sum(row[at] for row in rows) == 1 for at in ring)
        if cask in ring and whole and all(reach[other] == reach[cask] for other in ring):
            found.add(ring)
    return sorted(found)


def period_by_ways(of):
    """Return the period by the numbers of rounds behind which something of a cask of a ring is in it again."""
    result, goals = 1, goals_by_rounds(of, 3 * len(of) ** 2)
    for ring in rings_by_ways(of):
        back = [rounds + 1 for rounds, there in enumerate(goals) if ring[0] in there[ring[0]]]
        result = lcm(result, gcd(*back))
    return result


def apart(one, other):
    """Return the greatest sum, column by column, of the differences without signs."""
    return max(sum(abs(x[at] - y[at]) for x, y in zip(one, other)) for at in range(len(one)))


class Working(Case, unittest.TestCase):
    def test_after(self):
        draw = drawing(61)
        for casks in (1, 2, 3, 8):
            of, cellar = some_table(draw, casks), some_cellar(draw, casks)
            behind = cellar
            for rounds in range(7):
                self.assertEqual(after(of, rounds, cellar), behind)
                behind = worked(of, behind)
            self.assertEqual(after(of, 300, cellar), after(of, 150, after(of, 150, cellar)))
        self.assertEqual(after(cellar=(RED, WHITE), rounds=301, table=TURN), (WHITE, RED))
        self.assertEqual(after(HALF, 300, (RED, ())), (fill(red=Fraction(4, 2**300)),
            fill(red=4 - Fraction(4, 2**300))))
        self.assertEqual(after(table([0]), 1, (RED,)), ((),))
        self.assertEqual(after(table([0]), 0, (RED,)), (RED,))
        self.assertEqual(after(TURN, 5, ((), ())), ((), ()))

    def test_rings(self):
        draw = drawing(62)
        for of in EVERY + [some_table(draw, casks, holes=0.7) for casks in [2, 3, 4, 5] * 15]:
            self.assertEqual(self.all_new(rings, of), rings_by_ways(of))
        self.assertEqual(rings(table=MIXED), [(0, 1), (2, 3, 4)])
        self.assertEqual(rings(SLOW), [(0, 1, 2, 3)])
        self.assertEqual(rings(ring_table(3, 5)), [(0, 1, 2), (3, 4, 5, 6, 7)])
        self.assertEqual(rings(still(3)), [(0,), (1,), (2,)])
        self.assertEqual(rings(table([Fraction(LONG, LONGER)])), [])
        self.assertEqual(rings(table([0, 1], [0, 0])), [])
        self.assertEqual(rings(table_of_ways(4, {0: {3: 1}, 3: {0: 1}, 1: {2: 1}, 2: {1: 1}})), [(0, 3), (1, 2)])

    def test_periods(self):
        draw = drawing(63)
        for of in EVERY + [some_table(draw, casks, loss=False, holes=0.7) for casks in [2, 3, 4] * 10]:
            self.assertEqual(period(of), period_by_ways(of))
        told = [period(of) for of in (TURN, HALF, MIXED, SLOW, ring_table(8), ring_table(3, 5), ring_table(2, 3),
            ring_table(4, 4))]
        self.assertEqual(told, [2, 1, 6, 2, 8, 15, 6, 4])
        self.assertEqual(period(table=table([0])), 1)

    def test_limits(self):
        draw = drawing(64)
        for of in EVERY + [some_table(draw, casks, loss=False, holes=0.6) for casks in [1, 2, 3, 4] * 8]:
            found = limits(of)
            self.assertIs(type(found), tuple)
            self.assertEqual(len(found), period(of))
            rows = [matrix(entry) for entry in found]
            for at, entry in enumerate(rows):
                self.assertEqual(product(matrix(of), entry), rows[(at + 1) % len(rows)])
                self.assertEqual(product(entry, matrix(of)), rows[(at + 1) % len(rows)])
            self.assertEqual(product(rows[0], rows[0]), rows[0])
            # What is far out is as near as one wants, and what stays in the rings is all there is in the end.
            far = 300 - 300 % len(rows)
            first, second = apart(matrix(power(of, far)), rows[0]), apart(matrix(power(of, far // 2)), rows[0])
            self.assertTrue(first == 0 or first < second)
            self.assertLess(first, Fraction(1, 4))
        self.assertEqual(limits(TURN), (still(2), TURN))
        self.assertEqual(limits(table=table([Fraction(1, 2)])), (table([0]),))
        self.assertEqual(limits(still(8)), (still(8),))

    def test_limits_outside_of_rings(self):
        rows = matrix(limits(MIXED)[0])
        # From 5, 1/3 is in 0 a round later, so in 1 at even numbers of rounds.
        self.assertEqual([rows[0][5], rows[1][5]], [0, Fraction(1, 3)])
        self.assertEqual(sum(rows[at][5] for at in (2, 3, 4)), Fraction(1, 3) + Fraction(1, 6) * Fraction(1, 2))
        self.assertEqual([rows[0][7], rows[1][7]], [Fraction(1, 6), 0])
        self.assertEqual([rows[at][7] for at in (5, 6, 7)], [0, 0, 0])


class Near(Case, unittest.TestCase):
    def check(self, of, nearness):
        """Check the number of rounds by going through all of them."""
        ends, here, rows = [matrix(entry) for entry in limits(of)], unit(len(of)), matrix(of)
        gaps = []
        for rounds in range(60):
            gaps.append(apart(here, ends[rounds % len(ends)]))
            here = product(rows, here)
        self.assertEqual(gaps, sorted(gaps, reverse=True), "never farther")
        wanted = next((at for at in range(60) if gaps[at] <= nearness), None)
        if wanted is not None:
            self.assertEqual(near(of, pair(nearness)), wanted)
        return wanted

    def test_by_going_through(self):
        draw = drawing(65)
        found = []
        for of in EVERY + [some_table(draw, casks) for casks in [1, 2, 3, 4] * 4]:
            for nearness in (Fraction(3), Fraction(2), Fraction(1), Fraction(1, 2), Fraction(1, 10),
                Fraction(1, 10**4)):
                found.append(self.check(of, nearness))
        self.assertGreater(len({entry for entry in found if entry is not None}), 12)

    def test_columns_by_themselves(self):
        # Each column alone differs by 2 at first, all entries together by more.
        self.assertEqual(near(table([1, 1, 1], [0, 0, 0], [0, 0, 0]), (2, 1)), 0)
        self.assertEqual(near(table([1, 1, 1], [0, 0, 0], [0, 0, 0]), (199, 100)), 1)

    def test_just_at_a_nearness(self):
        for rounds in (1, 2, 63, 64, 65, 255, 256, 257, 299, 300):
            gap = Fraction(2, 2**rounds)
            self.assertEqual(near(HALF, pair(gap)), rounds)
            self.assertEqual(near(nearness=pair(gap * Fraction(2**20, 2**20 - 1)), table=HALF), rounds)
        self.refused(TooMany, 300, near, HALF, pair(Fraction(2, 2**300) * Fraction(LONG, LONG + 1)))
        self.refused(TooMany, 300, near, HALF, pair(Fraction(2, 2**301)))
        self.refused(TooMany, 300, near, nearness=pair(Fraction(1, 10**5)), table=table([Fraction(99, 100)]))

    def test_at_once(self):
        for of in (TURN, still(8), ring_table(3, 5)):
            self.assertEqual(near(of, (1, LONGER)), 0)
        self.assertEqual(near(table([0]), (1, LONGER)), 1)
        self.assertEqual(near(table([0]), (1, 1)), 0)

    def test_long_shares(self):
        share = Fraction(LONG, LONGER)
        self.assertEqual(near(table([share]), pair(share**17)), 17)
        self.assertEqual(near(table([share, 0], [1 - share, 1]), pair(2 * share**300)), 300)
        self.refused(TooMany, 300, near, table([share, 0], [1 - share, 1]),
            pair(2 * share**300 * (1 - Fraction(1, 10**9))))

    def test_eight_casks(self):
        of = some_table(drawing(66), 8, loss=False, holes=0, most=1000)
        rounds = near(of, (1, 10**40))
        end = matrix(limits(of)[0])
        self.assertLessEqual(apart(matrix(power(of, rounds)), end), Fraction(1, 10**40))
        self.assertGreater(apart(matrix(power(of, rounds - 1)), end), Fraction(1, 10**40))


class Refusals(Case, unittest.TestCase):
    def test_tables(self):
        for value in NO_TABLES:
            with self.subTest(value=value):
                self.refused(InvalidTable, value, after, value, -1, None)
                self.refused(InvalidTable, value, near, value, None)
                for function in (rings, period, limits):
                    self.refused(InvalidTable, value, function, value)

    def test_others(self):
        self.refused(InvalidNumber, -1, after, HALF, -1, None)
        for value in NO_CELLARS:
            with self.subTest(value=value):
                self.refused(InvalidCellar, value, after, HALF, 0, value)
        self.refused(Unlike, 1, after, HALF, 0, (RED,))
        self.refused(Unlike, 3, after, cellar=(RED, RED, RED), rounds=1, table=HALF)
        for value in NONE_OF_ANY + [(0, 1), (-1, 2), (2, 4), (1, 0), [1, 2], (True, 2)]:
            with self.subTest(value=value):
                self.refused(InvalidFraction, value, near, HALF, value)


if __name__ == "__main__":
    unittest.main()
