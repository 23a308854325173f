import unittest
from fractions import Fraction

from caskyears.errors import InvalidNumber, InvalidRow, InvalidYearly
from caskyears.rows import stage_totals, stages, tap, tap_amount
from caskyears.tables import still
from caskyears.yearly import casks_in, glass, glass_amount, grows, is_yearly, of_row, steady, totals
from tests.helper import ECHO, LONG, LONGER, NONE_OF_ANY, ODD, PRIME, Case, drawing, long_yearly, modulo, number, pair
from tests.helper import pairs, some_row, some_yearly, table, told, work_by_prime, work_yearly
from tests.test_rows import NO_ROWS, ROWS

HALF = (1, 2)
NO_YEARLY = NONE_OF_ANY + [
    (), (((HALF,),), (HALF,)), (((HALF,),), (HALF,), (HALF,), (HALF,)), [((HALF,),), (HALF,), (HALF,)],
    ([(HALF,)], (HALF,), (HALF,)), (((HALF,),), [HALF], (HALF,)), (((HALF,),), (HALF,), [HALF]),
    ((((3, 2),),), (HALF,), (HALF,)), (((HALF,),), ((-1, 2),), (HALF,)), (((HALF,),), (HALF,), ((3, 2),)),
    (((HALF,),), (HALF,), ((-1, 2),)), (((HALF,),), (), (HALF,)), (((HALF,),), (HALF,), ()),
    (((HALF,),), (HALF, HALF), (HALF,)), (((HALF,),), (HALF,), (HALF, HALF)), ((), (), ()),
    (((HALF,),), ((True, 1),), (HALF,)), (((HALF,),), (HALF,), ((2, 4),)), (((HALF,),), None, (HALF,)),
    (((HALF,),), (HALF,), None), (None, (HALF,), (HALF,)), (((HALF,),), HALF, (HALF,)), (((HALF,),), (HALF,), HALF),
    ((((1, 1), (0, 1)), ((1, 2), (1, 1))), (HALF, HALF), (HALF, HALF)), (((HALF,),), ECHO, (HALF,)),
    (((HALF,),), (HALF,), ODD), {"table": ((HALF,),)}, (((HALF,),), ([1, 2],), (HALF,)),
]
# A ring of two casks, one that feeds it, one that is drawn, one that loses.
RING = (
    table([0, 1, Fraction(1, 3), 0, 0], [1, 0, 0, 0, 0], [0, 0, Fraction(1, 3), 0, 0], [0, 0, Fraction(1, 3), 1, 0],
        [0, 0, 0, 0, Fraction(1, 2)]),
    pairs(0, 0, 1, 0, 3), pairs(0, 0, 0, Fraction(1, 2), 0),
)
NOTHING = (table([1, 0], [0, 1]), pairs(0, 0), pairs(1, 1))
EVERY = [
    RING, NOTHING, (still(1), pairs(1), pairs(0)), (still(1), pairs(0), pairs(0)), (still(2), pairs(1, 2), pairs(1, 0)),
    (table([0]), pairs(5), pairs(0)), (RING[0], pairs(0, 0, 0, 1, 1), RING[2]),
    (RING[0], pairs(0, 1, 0, 0, 0), RING[2]),
    (table([0, 1], [1, 0]), pairs(1, 0), pairs(0, Fraction(1, 5))), (table([0, 1], [0, 0]), pairs(0, 1), pairs(0, 0)),
    (table([Fraction(LONG, LONGER)]), pairs(Fraction(LONGER, LONG)), pairs(Fraction(1, LONG))),
]


class Kinds(unittest.TestCase):
    def test_yearly_cellars(self):
        for value in EVERY + [(table(*[[0] * 8] * 8), pairs(*[0] * 8), pairs(*[1] * 8))]:
            self.assertIs(is_yearly(value), True, value)
        self.assertIs(is_yearly(value=RING), True)

    def test_what_are_none(self):
        for value in NO_YEARLY:
            self.assertIs(is_yearly(value), False, value)


class YearByYear(Case, unittest.TestCase):
    def test_by_going_through(self):
        draw = drawing(111)
        for yearly in EVERY + [some_yearly(draw, casks) for casks in [1, 2, 3, 4, 5] * 5]:
            worked = work_yearly(yearly, 9)
            for year, (drawn, inside) in enumerate(worked):
                self.assertEqual(glass(yearly, year), told(drawn))
                self.assertEqual(casks_in(yearly, year), [told(cask) for cask in inside])
                self.assertEqual(totals(yearly, year), pairs(*[sum(cask.values()) for cask in inside]))
                self.assertEqual(glass_amount(yearly, year), pair(drawn.get(0, Fraction(0))))

    def test_rows(self):
        draw = drawing(112)
        for row in ROWS + [some_row(draw, many) for many in (1, 2, 3, 4, 5, 6)]:
            yearly = of_row(row)
            self.assertIs(is_yearly(yearly), True)
            self.assertEqual(len(yearly[1]), len(row))
            for year in (0, 1, 2, 5, 9):
                self.assertEqual(glass(yearly, year), tap(row, year))
                self.assertEqual(glass_amount(yearly, year), tap_amount(row, year))
                self.assertEqual(casks_in(yearly, year), stages(row, year))
                self.assertEqual(totals(yearly, year), stage_totals(row, year))
        self.assertEqual(of_row(row=(HALF,)), (still(1), pairs(1), (HALF,)))
        self.assertEqual(of_row(pairs(1, 1)), (table([0, 0], [1, 1]), pairs(1, 0), pairs(0, 1)))

    def test_the_year_0(self):
        for yearly in EVERY:
            self.assertEqual(glass(yearly, 0), [])
            self.assertEqual(glass_amount(yearly, 0), (0, 1))
            self.assertEqual(totals(yearly, 0), yearly[1])
            self.assertEqual(casks_in(yearly, 0), [[(0, much)] if much[0] else [] for much in yearly[1]])

    def test_many_years(self):
        kept = still(1), pairs(1), pairs(0)
        self.assertEqual(totals(kept, 300), ((301, 1),))
        self.assertEqual(casks_in(yearly=kept, year=300), [[(wine, (1, 1)) for wine in range(301)]])
        self.assertEqual(glass(year=300, yearly=kept), [])
        self.assertEqual(glass_amount(age=300, yearly=(still(1), pairs(1), (HALF,))), (1, 2**300))
        self.assertEqual(totals(year=301, yearly=RING)[4], pair(6 - 3 * Fraction(1, 2**301)))

    def test_long_numbers_at_the_limit(self):
        yearly = long_yearly(drawing(113), 4)
        stays = [1 - number(share) for share in yearly[2]]
        step = table(*[[number(entry) * left for entry, left in zip(row, stays)] for row in yearly[0]])
        worked = work_by_prime(step, yearly[1], 300)
        glasses = [sum(modulo(share) * much for share, much in zip(yearly[2], inside)) % PRIME for inside in worked]
        self.assertEqual([modulo(much) for _, much in glass(yearly, 300)], glasses[299::-1])
        self.assertEqual([modulo(much) for much in totals(yearly, 300)], [sum(at) % PRIME for at in zip(*worked)])
        eight = long_yearly(drawing(114), 8)
        self.assertLess(number(glass_amount(eight, 60)), 1)

    def test_lists_are_new(self):
        for yearly in EVERY:
            self.all_new(glass, yearly, 5)
            self.all_new(casks_in, yearly, 5)


class InTheLongRun(Case, unittest.TestCase):
    def test_steady(self):
        draw = drawing(115)
        steadies = 0
        for yearly in EVERY + [some_yearly(draw, casks, loss=draw.random() < 0.5) for casks in [1, 2, 3, 4] * 10]:
            found = steady(yearly)
            self.assertIs(found is None, grows(yearly) != ())
            if found is not None:
                steadies += 1
                self.check_steady(yearly, found)
        self.assertGreater(steadies, 20)

    def check_steady(self, yearly, found):
        """Check that amounts stay if they are there, and that those year by year come near and are never more."""
        now = [number(much) * (1 - number(share)) for much, share in zip(found, yearly[2])]
        rows = [[number(entry) for entry in row] for row in yearly[0]]
        behind = [sum(x * y for x, y in zip(row, now)) + number(put) for row, put in zip(rows, yearly[1])]
        self.assertEqual(pairs(*behind), found)
        here, far = totals(yearly, 10), totals(yearly, 60)
        for end, first, later in zip(found, here, far):
            self.assertTrue(number(first) <= number(later) <= number(end))
            self.assertTrue(first == end or number(end) - number(later) < number(end) - number(first))

    def test_grows(self):
        draw = drawing(116)
        growing = 0
        for yearly in EVERY + [some_yearly(draw, casks, loss=draw.random() < 0.3) for casks in [1, 2, 3, 4] * 10]:
            found = grows(yearly)
            growing += found != ()
            # A cask that does not grow nears its end faster and faster; one that does goes on as much in each round.
            first, second, third = totals(yearly, 60), totals(yearly, 120), totals(yearly, 180)
            for cask in range(len(first)):
                ahead, behind = (number(y[cask]) - number(x[cask]) for x, y in ((first, second), (second, third)))
                self.assertIs(cask in found, behind > 0 and behind * 2 >= ahead)
        self.assertGreater(growing, 8)

    def test_some_of_them(self):
        self.assertEqual([steady(RING), grows(RING)], [None, (0, 1)])
        self.assertEqual([steady(NOTHING), grows(NOTHING)], [pairs(0, 0), ()])
        self.assertEqual(grows(yearly=(still(3), pairs(1, 0, 2), pairs(0, 0, 0))), (0, 2))
        self.assertEqual(steady(yearly=(still(2), pairs(0, 3), pairs(0, Fraction(1, 4)))), pairs(0, 12))
        self.assertEqual(grows((still(2), pairs(0, 3), pairs(0, Fraction(1, LONGER)))), ())
        self.assertEqual(steady((still(2), pairs(0, 3), pairs(0, Fraction(1, LONGER)))), pairs(0, 3 * LONGER))
        self.assertEqual(steady((RING[0], pairs(0, 0, 0, 1, 1), RING[2])), pairs(0, 0, 0, 2, 2))
        eight = table(*[[1 if goal == (source + 1) % 8 else 0 for source in range(8)] for goal in range(8)])
        self.assertEqual(grows((eight, pairs(*[0] * 7, 1), pairs(*[0] * 8))), tuple(range(8)))
        self.assertEqual(grows((eight, pairs(*[0] * 7, 1), pairs(Fraction(1, LONGER), *[0] * 7))), ())


class Refusals(Case, unittest.TestCase):
    def test_yearly_cellars(self):
        for value in NO_YEARLY:
            with self.subTest(value=value):
                for function in (glass_amount, glass, casks_in, totals):
                    self.refused(InvalidYearly, value, function, value, -1)
                self.refused(InvalidYearly, value, steady, value)
                self.refused(InvalidYearly, value, grows, value)

    def test_others(self):
        for value in NO_ROWS:
            with self.subTest(value=value):
                self.refused(InvalidRow, value, of_row, value)
        for below in (-1, -(10**40)):
            for function in (glass_amount, glass, casks_in, totals):
                self.refused(InvalidNumber, below, function, RING, below)
        self.refused(InvalidNumber, -1, glass_amount, age=-1, yearly=RING)
        self.refused(InvalidNumber, -1, totals, year=-1, yearly=RING)


if __name__ == "__main__":
    unittest.main()
