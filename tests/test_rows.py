import unittest
from fractions import Fraction

from caskyears.errors import InvalidFraction, InvalidNumber, InvalidRow, TooMany
from caskyears.rows import all_by, is_row, limits, stage_totals, stages, tap, tap_amount, tap_total
from tests.helper import ECHO, LONG, LONGER, NONE_OF_ANY, ODD, PRIME, Case, drawing, long_row, modulo, number, pair
from tests.helper import pairs, some_row, told, work_row

HALF = (1, 2)
HALF_OF_ONE = Fraction(1, 2)
NO_ROWS = NONE_OF_ANY + [
    (), [], [HALF], (HALF, None), (HALF, [1, 2]), (HALF, 1), ((0, 1),), (HALF, (0, 1)), ((0, 1), HALF), ((-1, 2),),
    ((3, 2),), (HALF, (LONGER + 1, LONGER)), ((2, 4),), ((True, 1),), ((1, True),), (HALF,) * 7, ((1, 1),) * 8, HALF,
    ((1, 2, 3),), {0: HALF}, ((HALF,),), ("ab",), (ODD,), (ECHO,), (1, 1), ((1, 0),),
]
ROWS = [
    pairs(1), pairs(Fraction(1, 2)), pairs(Fraction(1, 2), Fraction(1, 3)), pairs(1, 1), pairs(1, Fraction(1, 4), 1),
    pairs(Fraction(1, 3), Fraction(1, 3), Fraction(1, 3)), pairs(1, 1, 1, 1, 1, 1),
    pairs(Fraction(1, 2), Fraction(2, 3), 1, Fraction(1, 5), Fraction(1, 2), Fraction(3, 7)),
    pairs(Fraction(1, 9), Fraction(8, 9)), pairs(Fraction(1, LONGER)), pairs(Fraction(LONG, LONGER), Fraction(1, 2)),
]
NO_NEARNESS = NONE_OF_ANY + [(0, 1), (-1, 2), (2, 4), (1, 0), [1, 2], (True, 2)]


class Kinds(unittest.TestCase):
    def test_rows(self):
        for value in ROWS + [pairs(*[Fraction(LONG, LONGER)] * 6)]:
            self.assertIs(is_row(value), True, value)
        self.assertIs(is_row(value=(HALF,)), True)

    def test_what_are_none(self):
        for value in NO_ROWS:
            self.assertIs(is_row(value), False, value)


class YearByYear(Case, unittest.TestCase):
    def test_by_going_through(self):
        draw = drawing(81)
        for row in ROWS + [some_row(draw, stages) for stages in [1, 2, 3, 4, 5, 6] * 3]:
            worked = work_row(row, 12)
            for year, (glass, inside) in enumerate(worked):
                self.assertEqual(tap(row, year), told(glass))
                self.assertEqual(stages(row, year), [told(stage) for stage in inside])
                self.assertEqual(tap_total(row, year), pair(sum(glass.values(), Fraction(0))))
                self.assertEqual(stage_totals(row, year), pairs(*[sum(stage.values()) for stage in inside]))
                self.assertEqual(tap_amount(row, year), pair(glass.get(0, Fraction(0))))

    def test_the_year_0(self):
        for row in ROWS:
            self.assertEqual(tap(row, 0), [])
            self.assertEqual(tap_total(row, 0), (0, 1))
            self.assertEqual(stages(row, 0), [[(0, (1, 1))]] + [[] for _ in row[1:]])
            self.assertEqual(stage_totals(row, 0), ((1, 1),) + ((0, 1),) * (len(row) - 1))

    def test_ages_below_the_number_of_stages(self):
        for row in ROWS:
            for age in range(len(row)):
                self.assertEqual(tap_amount(row, age), (0, 1))
                self.assertEqual(tap(row, age), [])
            product = Fraction(1)
            for share in row:
                product *= number(share)
            self.assertEqual(tap_amount(row, len(row)), pair(product))

    def test_shares_that_are_1(self):
        row = pairs(1, 1, 1)
        self.assertEqual([tap_amount(row, age) for age in range(6)], list(pairs(0, 0, 0, 1, 0, 0)))
        self.assertEqual(tap(row, 300), [(297, (1, 1))])
        self.assertEqual(stages(row, 300), [[(300, (1, 1))], [(299, (1, 1))], [(298, (1, 1))]])
        self.assertEqual(tap_total(row, 300), (1, 1))

    def test_many_years(self):
        self.assertEqual(tap_amount(pairs(HALF_OF_ONE), 300), (1, 2**300))
        self.assertEqual(tap_amount(row=pairs(HALF_OF_ONE), age=301), (1, 2**301))
        found = tap(year=300, row=pairs(HALF_OF_ONE, HALF_OF_ONE))
        self.assertEqual(len(found), 299)
        self.assertEqual(found, [(wine, pair(Fraction(299 - wine, 2**(300 - wine)))) for wine in range(299)])
        self.assertEqual(stage_totals(row=(HALF,), year=300), (pair(2 - Fraction(1, 2**300)),))
        self.assertEqual(tap_total(year=300, row=(HALF,)), pair(1 - Fraction(1, 2**300)))
        self.assertEqual(stages(year=1, row=(HALF,)), [[(0, HALF), (1, (1, 1))]])

    def test_long_shares_at_the_limit(self):
        row = long_row(drawing(82), 6)
        shares = [modulo(share) for share in row]
        inside, taps, wholes = [1] + [0] * 5, [0], [[1] + [0] * 5]
        for _ in range(300):
            taps.append(inside[5] * shares[5] % PRIME)
            inside = [((1 - shares[at]) * inside[at] + (shares[at - 1] * inside[at - 1] if at else 0)) % PRIME
                for at in range(6)]
            wholes.append(inside)
        found = tap(row, 300)
        self.assertEqual([modulo(much) for _, much in found], [taps[300 - wine] for wine, _ in found])
        self.assertEqual([wine for wine, _ in found], list(range(295)))
        self.assertEqual(modulo(tap_amount(row, 300)), taps[300])
        self.assertEqual(modulo(tap_total(row, 300)), sum(taps) % PRIME)
        self.assertEqual([modulo(much) for much in stage_totals(row, 300)], [sum(at) % PRIME for at in zip(*wholes)])
        for at, stage in enumerate(stages(row, 300)):
            self.assertEqual([modulo(much) for _, much in stage], [wholes[300 - wine][at] for wine, _ in stage])
            self.assertEqual(len(stage), 301 - at)

    def test_lists_are_new(self):
        for row in ROWS[:8]:
            self.all_new(tap, row, 9)
            self.all_new(stages, row, 9)


class InTheLongRun(Case, unittest.TestCase):
    def test_limits(self):
        for row in ROWS:
            self.assertEqual(limits(row), pairs(*[1 / number(share) for share in row]))
        for row in ROWS[:8]:
            near = [number(much) for much in stage_totals(row, 300)]
            for end, here, before in zip(limits(row), near, stage_totals(row, 299)):
                self.assertLessEqual(here, number(end))
                self.assertLess(number(end) - here, Fraction(1, 10**6))
                self.assertLessEqual(number(before), here)
        self.assertEqual(limits(row=(HALF,)), ((2, 1),))

    def test_all_by(self):
        draw = drawing(83)
        for row in ROWS[:8] + [some_row(draw, many) for many in (1, 2, 3, 6)]:
            given = [Fraction(0)]
            for age in range(1, 40):
                given.append(given[-1] + number(tap_amount(row, age)))
            for nearness in (Fraction(2), Fraction(1), Fraction(999, 1000), HALF_OF_ONE, Fraction(1, 10)):
                wanted = next(age for age in range(300) if given[age] >= 1 - nearness)
                self.assertEqual(all_by(row, pair(nearness)), wanted)
            for age in (3, 9, 20):
                if given[age] < 1:
                    first = next(at for at in range(40) if given[at] == given[age])
                    self.assertEqual(all_by(row, pair(1 - given[age])), first)

    def test_all_by_at_300(self):
        for age in (1, 2, 299, 300):
            self.assertEqual(all_by((HALF,), (1, 2**age)), age)
        self.refused(TooMany, 300, all_by, (HALF,), (LONG, 2**300 * LONG + 1))
        self.refused(TooMany, 300, all_by, (HALF,), (1, 2**301))
        self.refused(TooMany, 300, all_by, nearness=(1, 2), row=pairs(Fraction(1, LONGER)))
        self.assertEqual(all_by(pairs(1, 1), (1, LONGER)), 2)
        row = pairs(Fraction(LONG, LONGER))
        self.assertEqual(all_by(row, pair((1 - Fraction(LONG, LONGER)) ** 300)), 300)


class Refusals(Case, unittest.TestCase):
    def test_rows(self):
        for value in NO_ROWS:
            with self.subTest(value=value):
                for function in (tap_amount, tap, stages, tap_total, stage_totals):
                    self.refused(InvalidRow, value, function, value, -1)
                self.refused(InvalidRow, value, limits, value)
                self.refused(InvalidRow, value, all_by, value, None)

    def test_numbers(self):
        for below in (-1, -(10**40)):
            for function in (tap_amount, tap, stages, tap_total, stage_totals):
                self.refused(InvalidNumber, below, function, (HALF,), below)
            self.refused(InvalidNumber, below, tap_amount, row=(HALF,), age=below)
            self.refused(InvalidNumber, below, tap, row=(HALF,), year=below)
        for value in NO_NEARNESS:
            with self.subTest(value=value):
                self.refused(InvalidFraction, value, all_by, (HALF,), value)


if __name__ == "__main__":
    unittest.main()
