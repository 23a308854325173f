import unittest
from fractions import Fraction

from caskyears.cleaning import clean_from, left, left_for_ever, slowest
from caskyears.errors import InvalidFill, InvalidFraction, InvalidNumber, InvalidYearly, TooMany
from caskyears.tables import still
from caskyears.yearly import of_row
from tests.helper import LONG, LONGER, NONE_OF_ANY, Case, drawing, long_yearly, matrix, modulo, number, pair, pairs
from tests.helper import some_yearly, table, work_by_prime
from tests.test_yearly import EVERY, NO_YEARLY, RING

HALF = (1, 2)
LEAVES = of_row((HALF,))
NO_OLD = NONE_OF_ANY + [
    (), [(1, 1)], ((1, 1), (1, 1)), ((-1, 2),), ((2, 4),), ([1, 1],), ((True, 1),), {0: (1, 1)}, (1, 1), ((1, 1),) * 9,
]


def behind(yearly, old, year):
    """Return the list of what is left in each cask of old wine, year by year, draw by draw."""
    inside = [number(much) for much in old]
    for _ in range(year):
        inside = [much - much * number(share) for much, share in zip(inside, yearly[2])]
        inside = [sum(x * y for x, y in zip(row, inside)) for row in matrix(yearly[0])]
    return inside


def some_old(draw, casks):
    """Return old wine in so many casks, in some of them none."""
    return pairs(*[Fraction(draw.randrange(4), draw.randrange(1, 4)) for _ in range(casks)])


class Left(Case, unittest.TestCase):
    def test_by_going_through(self):
        draw = drawing(131)
        for yearly in EVERY + [some_yearly(draw, casks) for casks in [1, 2, 3, 5] * 5]:
            old = some_old(draw, len(yearly[0]))
            for year in range(8):
                self.assertEqual(left(yearly, old, year), pairs(*behind(yearly, old, year)))
            self.assertEqual(left(yearly, old, 0), old)
        self.assertEqual(left(year=300, old=pairs(1), yearly=LEAVES), ((1, 2**300),))
        self.assertEqual(left(LEAVES, pairs(1), 301), ((1, 2**301),))
        self.assertEqual(left(EVERY[0], pairs(0, 0, 0, 0, 0), 9), pairs(0, 0, 0, 0, 0))

    def test_for_ever(self):
        draw = drawing(132)
        kept = 0
        for yearly in EVERY + [some_yearly(draw, casks, loss=draw.random() < 0.4) for casks in [1, 2, 3, 4] * 8]:
            old = some_old(draw, len(yearly[0]))
            end, far = number(left_for_ever(yearly, old)), [sum(behind(yearly, old, year)) for year in (0, 30, 90)]
            self.assertTrue(far[0] >= far[1] >= far[2] >= end >= 0)
            self.assertTrue(far[1] == end or (far[2] - end) * 2 < far[1] - end)
            kept += 0 < end < far[0]
        self.assertGreater(kept, 2)
        self.assertEqual(left_for_ever(old=pairs(0, 0, 3, 1, 1), yearly=RING), pair(Fraction(3, 2)))
        self.assertEqual(left_for_ever((still(2), pairs(0, 0), pairs(0, 1)), pairs(5, 7)), (5, 1))
        self.assertEqual(left_for_ever(LEAVES, pairs(1)), (0, 1))
        self.assertEqual(left_for_ever((still(8), pairs(*[0] * 8), pairs(*[0] * 8)), pairs(*[1] * 8)), (8, 1))

    def test_slowest(self):
        draw = drawing(133)
        for yearly in EVERY + [some_yearly(draw, casks) for casks in [1, 2, 3, 5] * 5]:
            casks = range(len(yearly[0]))
            for year in (0, 1, 2, 7):
                stays = [sum(behind(yearly, pairs(*[at == cask for at in casks]), year)) for cask in casks]
                self.assertEqual(slowest(yearly, year), (stays.index(max(stays)), pair(max(stays))))
        self.assertEqual(slowest(year=300, yearly=LEAVES), (0, (1, 2**300)))
        self.assertEqual(slowest((table([0, 0], [0, 0]), pairs(1, 1), pairs(0, 0)), 1), (0, (0, 1)))
        self.assertEqual(slowest(RING, 300), (0, (1, 1)))
        self.assertEqual(slowest((RING[0], RING[1], pairs(1, 1, 0, 1, 0)), 2), (2, (1, 3)))

    def test_long_numbers_at_the_limit(self):
        yearly = long_yearly(drawing(134), 4)
        stays = [1 - number(share) for share in yearly[2]]
        step = table(*[[number(entry) * kept for entry, kept in zip(row, stays)] for row in yearly[0]])
        self.assertEqual([modulo(much) for much in left(yearly, yearly[1], 300)],
            work_by_prime(step, yearly[1], 300)[-1])
        cask, much = slowest(yearly, 300)
        start = pairs(*[at == cask for at in range(4)])
        self.assertEqual(modulo(much), sum(work_by_prime(step, start, 300)[-1]) % (2**61 - 1))


class Clean(Case, unittest.TestCase):
    def test_by_going_through(self):
        draw = drawing(135)
        words = {"none": 0, "found": 0}
        for yearly in EVERY[:9] + [some_yearly(draw, casks) for casks in [1, 2, 3, 4] * 5]:
            old = some_old(draw, len(yearly[0]))
            wholes = [sum(behind(yearly, old, year)) for year in range(60)]
            end = number(left_for_ever(yearly, old))
            for amount in (Fraction(0), Fraction(1, 10), Fraction(1), Fraction(2), end, wholes[3], wholes[9], wholes[0],
                    end + Fraction(1, 50)):
                found = clean_from(yearly, old, pair(amount))
                wanted = next((year for year in range(60) if wholes[year] <= amount), None)
                words["none" if found is None else "found"] += 1
                if found is None:
                    self.assertTrue(wanted is None and amount <= end)
                else:
                    self.assertEqual(found, wanted)
        self.assertGreater(min(words.values()), 20)

    def test_what_stays_for_ever(self):
        self.assertIsNone(clean_from((still(1), pairs(0), pairs(0)), pairs(2), (1, 1)))
        self.assertEqual(clean_from((still(1), pairs(0), pairs(0)), pairs(2), (2, 1)), 0)
        # A half of it comes into the ring and stays, and that is all there is from the third year on or never.
        self.assertIsNone(clean_from(RING, pairs(0, 0, 2, 0, 0), (1, 1)))
        self.assertEqual(clean_from(RING, pairs(1, 0, 0, 0, 0), (1, 1)), 0)
        self.assertIsNone(clean_from(RING, pairs(1, 0, 0, 0, 0), (99, 100)))

    def test_what_is_gone_in_the_end(self):
        chain = [[1 if one == other + 1 else 0 for other in range(8)] for one in range(8)]
        yearly = table(*chain), pairs(*[1] * 8), pairs(*[0] * 8)
        self.assertEqual(clean_from(amount=(0, 1), old=pairs(1, *[0] * 7), yearly=yearly), 8)
        self.assertEqual(clean_from(yearly, pairs(1, *[0] * 7), (1, LONGER)), 8)
        self.assertEqual(clean_from(yearly, pairs(*[0] * 7, 1), (0, 1)), 1)
        self.assertEqual(clean_from(yearly, pairs(*[0] * 8), (0, 1)), 0)
        self.assertIsNone(clean_from(LEAVES, pairs(1), (0, 1)))

    def test_at_300(self):
        for year in (1, 299, 300):
            self.assertEqual(clean_from(LEAVES, pairs(1), (1, 2**year)), year)
        self.refused(TooMany, 300, clean_from, LEAVES, pairs(1), (LONG, LONG * 2**300 + 1))
        self.refused(TooMany, 300, clean_from, LEAVES, pairs(1), (1, 2**301))
        slow = still(1), pairs(1), pairs(Fraction(1, LONGER))
        self.refused(TooMany, 300, clean_from, amount=HALF, old=pairs(1), yearly=slow)
        self.assertEqual(clean_from(slow, pairs(1), pair((1 - Fraction(1, LONGER)) ** 300)), 300)
        # What stays for ever and what comes near to it: there is such a year, but above 300.
        both = still(2), pairs(0, 0), pairs(0, Fraction(1, 1000))
        self.refused(TooMany, 300, clean_from, both, pairs(1, 1), (3, 2))
        self.assertIsNone(clean_from(both, pairs(1, 1), (1, 1)))


class Refusals(Case, unittest.TestCase):
    def test_yearly_cellars(self):
        for value in NO_YEARLY:
            with self.subTest(value=value):
                self.refused(InvalidYearly, value, left, value, None, -1)
                self.refused(InvalidYearly, value, left_for_ever, value, None)
                self.refused(InvalidYearly, value, clean_from, value, None, None)
                self.refused(InvalidYearly, value, slowest, value, -1)

    def test_old_wine(self):
        for value in NO_OLD:
            with self.subTest(value=value):
                self.refused(InvalidFill, value, left, LEAVES, value, -1)
                self.refused(InvalidFill, value, left_for_ever, LEAVES, value)
                self.refused(InvalidFill, value, clean_from, LEAVES, value, None)
        self.refused(InvalidFill, pairs(1), left, RING, pairs(1), 0)

    def test_others(self):
        self.refused(InvalidNumber, -1, left, LEAVES, pairs(1), -1)
        self.refused(InvalidNumber, -(10**40), slowest, LEAVES, -(10**40))
        for value in NONE_OF_ANY + [(-1, 2), (2, 4), (1, 0), [1, 2], (True, 2)]:
            with self.subTest(value=value):
                self.refused(InvalidFraction, value, clean_from, LEAVES, pairs(1), value)


if __name__ == "__main__":
    unittest.main()
