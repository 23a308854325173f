import unittest
from fractions import Fraction

from caskyears.errors import InvalidFill, InvalidNumber, InvalidYearly, NoSolution
from caskyears.taps import alike_glasses, first_unlike, least_numbers, least_size, next_amounts, numbers_hold
from caskyears.taps import recurrence, told_casks
from caskyears.yearly import glass_amount, of_row
from tests.helper import ECHO, LONG, LONGER, NONE_OF_ANY, ODD, Case, drawing, long_yearly, number, pair, pairs
from tests.helper import rank_by_rows, some_yearly, table, work_yearly
from tests.test_rows import ROWS
from tests.test_yearly import EVERY, NOTHING, NO_YEARLY

HALF = (1, 2)
NO_AMOUNTS = NONE_OF_ANY + [
    [], ((1, 1),), [(0, 1)] * 41, [None], [(1, 1), None], [(2, 2)], [(True, 1)], [[1, 1]], [1], [(1, 1), (1, 0)],
    {0: (1, 1)}, (1, 1), ["ab"], [ODD],
]


def glasses(yearly, last):
    """Return the list of the amounts of each age from 1 to the last one, as Python's fractions."""
    first_wine = [drawn.get(0, Fraction(0)) for drawn, _ in work_yearly(yearly, last)]
    return first_wine[1:]


def shortest(amounts):
    """Return the length of the shortest list of factors, by the ranks for each length."""
    for many in range(len(amounts)):
        rows = [[amounts[at - back] for back in range(1, many + 1)] for at in range(many, len(amounts))]
        if not many and not any(amounts):
            return 0
        wider = [row + [amounts[at + many]] for at, row in enumerate(rows)]
        if many and rank_by_rows(rows) == rank_by_rows(wider):
            return many
    return len(amounts)


def numbers_of(rows, into, tap):
    """Return the lists of a table, an into and a tap."""
    return [list(pairs(*row)) for row in rows], list(pairs(*into)), list(pairs(*tap))


class Alike(Case, unittest.TestCase):
    def test_by_going_through(self):
        draw = drawing(121)
        cellars = EVERY[:9] + [some_yearly(draw, casks) for casks in [1, 2, 3] * 4]
        cellars += [of_row(row) for row in ROWS[:6]] + [of_row(row[::-1]) for row in ROWS[2:6]]
        for one in cellars:
            for other in cellars:
                mine, theirs = glasses(one, 12), glasses(other, 12)
                wanted = next((age for age in range(1, 13) if mine[age - 1] != theirs[age - 1]), None)
                self.assertEqual(first_unlike(one, other), wanted)
                self.assertIs(alike_glasses(one, other), wanted is None)
                self.assertLessEqual(wanted or 0, len(one[0]) + len(other[0]))

    def test_unlike_as_late_as_can_be(self):
        one = table([Fraction(1, 2)]), pairs(1), pairs(Fraction(1, 2))
        other = table([Fraction(1, 3)]), pairs(1), pairs(Fraction(1, 2))
        self.assertEqual(first_unlike(one=one, other=other), 2)
        chain = table([0, 0, 0], [1, 0, 0], [0, 1, 0]), pairs(1, 0, 0), pairs(0, 0, 1)
        self.assertEqual(first_unlike(NOTHING, chain), 3)
        self.assertIs(alike_glasses(other=NOTHING, one=(table([1]), pairs(3), pairs(0))), True)
        ring = table([0, 0, 1], [1, 0, 0], [0, 1, 0]), pairs(1, 0, 0), pairs(0, 0, 1)
        self.assertIs(alike_glasses(chain, ring), True, "all is drawn, so nothing goes round")
        half_ring = ring[0], ring[1], pairs(0, 0, Fraction(1, 2))
        self.assertEqual(first_unlike((chain[0], chain[1], half_ring[2]), half_ring), 6)

    def test_long_numbers(self):
        yearly = long_yearly(drawing(122), 8)
        turned = tuple(tuple(row[::-1]) for row in yearly[0][::-1]), yearly[1][::-1], yearly[2][::-1]
        self.assertIs(alike_glasses(yearly, turned), True)
        self.assertEqual(least_size(long_yearly(drawing(123), 4)), 4)


class Least(Case, unittest.TestCase):
    def check(self, yearly):
        """Check the least size by the rank, and the numbers by the amounts of many ages; return the size."""
        casks = len(yearly[0])
        amounts = glasses(yearly, 2 * casks + 12)
        size = rank_by_rows([[amounts[one + other] for other in range(casks)] for one in range(casks)])
        self.assertEqual(least_size(yearly), size)
        found = least_numbers(yearly)
        self.assertIs(type(found), tuple)
        rows, into, tap = [[number(entry) for entry in row] for row in found[0]], found[1], found[2]
        self.assertEqual([len(rows), len(into), len(tap)], [size] * 3)
        inside = [number(entry) for entry in into]
        for much in amounts:
            self.assertEqual(sum(number(share) * entry for share, entry in zip(tap, inside)), much)
            inside = [sum(x * y for x, y in zip(row, inside)) for row in rows]
        self.assertIs(numbers_hold(yearly, found), True)
        self.all_new(least_numbers, yearly)
        return size

    def test_by_ranks(self):
        draw = drawing(124)
        sizes = [self.check(yearly) for yearly in EVERY + [some_yearly(draw, casks) for casks in [1, 2, 3, 4] * 8]]
        self.assertLessEqual({0, 1, 2, 3}, set(sizes))
        for row in ROWS[:8]:
            self.assertEqual(self.check(of_row(row)), len(row))

    def test_nothing_in_the_glass(self):
        for yearly in [NOTHING, (table([1]), pairs(3), pairs(0)), (table([1, 0], [0, 1]), pairs(1, 0), pairs(0, 1))]:
            self.assertEqual([least_size(yearly=yearly), least_numbers(yearly=yearly)], [0, ([], [], [])])
            self.assertIs(numbers_hold(yearly, ([], [], [])), True)
        self.assertIs(numbers_hold((table([1]), pairs(1), pairs(1)), ([], [], [])), False)

    def test_fewer_than_the_casks(self):
        half = Fraction(1, 2)
        twins = table([half, 0], [0, half]), pairs(1, 3), (HALF, HALF)
        self.assertEqual(least_size(twins), 1)
        self.assertIs(numbers_hold(value=numbers_of([[Fraction(1, 4)]], [4], [half]), yearly=twins), True)
        eight = table(*[[Fraction(1, 8)] * 8] * 8), pairs(*[1] * 8), pairs(*[half] * 8)
        self.assertEqual(self.check(eight), 1)

    def test_numbers_of_any_size(self):
        yearly = of_row((HALF,))
        half = Fraction(1, 2)
        self.assertIs(numbers_hold(yearly, numbers_of([[0, 0], [0, half]], [5, 1], [0, half])), True)
        self.assertIs(numbers_hold(yearly, numbers_of([[half]], [-1], [-half])), True)
        wide = [[Fraction(1, 2) if one == other == 7 else 0 for other in range(8)] for one in range(8)]
        self.assertIs(numbers_hold(yearly, numbers_of(wide, [0] * 7 + [1], [0] * 7 + [Fraction(1, 2)])), True)
        nine = [[Fraction(1, 2) if one == other == 8 else 0 for other in range(9)] for one in range(9)]
        self.assertIs(numbers_hold(yearly, numbers_of(nine, [0] * 8 + [1], [0] * 8 + [Fraction(1, 2)])), False)

    def test_unlike_only_at_the_last_age(self):
        # Eight casks that hand on, one after the other: what is unlike comes out of the eighth alone.
        yearly = (table([0]), pairs(1), pairs(0))
        chain = [[1 if one == other + 1 else 0 for other in range(8)] for one in range(8)]
        self.assertIs(numbers_hold(yearly, numbers_of(chain, [1] + [0] * 7, [0] * 7 + [1])), False)
        self.assertIs(numbers_hold(yearly, numbers_of(chain, [1] + [0] * 7, [0] * 8)), True)

    def test_what_does_not_hold(self):
        yearly = of_row((HALF,))
        good = numbers_of([[Fraction(1, 2)]], [1], [Fraction(1, 2)])
        self.assertIs(numbers_hold(yearly, good), True)
        for value in NONE_OF_ANY + [
            list(good), good[:2], good + ([],), ([], [], []), (good[0], good[1], [(1, 3)]),
            (good[0], [(2, 1)], good[2]),
            ([[(1, 3)]], good[1], good[2]), (((HALF,),), good[1], good[2]), ([(HALF,)], good[1], good[2]),
            ([[HALF]], ((1, 1),), good[2]), ([[HALF]], [(1, 1)], (HALF,)), ([[HALF, HALF]], good[1], good[2]),
            ([[HALF], [HALF]], good[1], good[2]), ([[HALF]], [(1, 1), (0, 1)], good[2]), ([[(2, 4)]], good[1], good[2]),
            ([[HALF]], [1], good[2]), ([[HALF]], [(True, 1)], good[2]), ([[HALF]], [(1, 1)], [None]), ([[]], [], []),
            ([[HALF]], [(1, 1)], [ECHO]), (ECHO, good[1], good[2]), ([ODD], good[1], good[2]), ([[HALF]], [], []),
        ]:
            with self.subTest(value=value):
                self.assertIs(numbers_hold(yearly, value), False)


class Recurrences(Case, unittest.TestCase):
    def test_by_ranks(self):
        draw = drawing(125)
        told = {"one": 0, "many": 0}
        for _ in range(300):
            amounts = [Fraction(draw.randrange(-1, 3), draw.randrange(1, 3)) for _ in range(draw.randrange(1, 9))]
            many = draw.randrange(0, 4)
            factors = [Fraction(draw.randrange(-2, 3), draw.randrange(1, 3)) for _ in range(many)]
            for at in range(many, len(amounts) if draw.random() < 0.8 else 0):
                amounts[at] = sum((x * amounts[at - back - 1] for back, x in enumerate(factors)), Fraction(0))
            told[self.check(amounts)] += 1
        self.assertGreater(min(told.values()), 50)

    def check(self, amounts):
        """Check the factors; return whether they are the only ones."""
        wanted, passed = shortest(amounts), [pair(much) for much in amounts]
        if 2 * wanted > len(amounts):
            for function in (recurrence, told_casks):
                self.refused(NoSolution, passed, function, passed)
            self.refused(NoSolution, passed, next_amounts, passed, -1)
            return "many"
        found = [number(entry) for entry in self.all_new(recurrence, passed)]
        self.assertEqual([len(found), told_casks(passed)], [wanted, wanted])
        going = list(amounts)
        for _ in range(5):
            going.append(sum((x * going[-back - 1] for back, x in enumerate(found)), Fraction(0)))
        for at in range(wanted, len(going)):
            self.assertEqual(going[at], sum(x * going[at - back - 1] for back, x in enumerate(found)))
        self.assertEqual(self.all_new(next_amounts, passed, 5), [pair(much) for much in going[len(amounts):]])
        return "one"

    def test_edges(self):
        self.assertEqual([recurrence([(0, 1)]), told_casks([(0, 1)] * 40), next_amounts([(0, 1)] * 7, 3)],
            [[], 0, [(0, 1)] * 3])
        self.refused(NoSolution, [(1, 1)], recurrence, [(1, 1)])
        self.refused(NoSolution, [(0, 1), (0, 1), (1, 1)], told_casks, amounts=[(0, 1), (0, 1), (1, 1)])
        self.assertEqual(recurrence(amounts=[(5, 1), (0, 1)]), [(0, 1)])
        self.assertEqual(recurrence([(0, 1), (1, 1), (0, 1), (0, 1)]), [(0, 1), (0, 1)])
        self.assertEqual(next_amounts(many=0, amounts=[(1, 1), (2, 1)]), [])
        self.assertEqual(next_amounts([(1, 1), (2, 1)], 300)[-1], (2**301, 1))
        self.assertEqual(next_amounts([(1, 1), (-1, 2)], 300)[-2:], [(1, 2**300), (-1, 2**301)])

    def test_forty_amounts(self):
        draw = drawing(126)
        amounts = [pair(draw.randrange(-LONGER, LONGER)) for _ in range(40)]
        factors = recurrence(amounts)
        self.assertEqual(len(factors), 20)
        for at in range(20, 40):
            self.assertEqual(sum(number(x) * number(amounts[at - back - 1]) for back, x in enumerate(factors)),
                number(amounts[at]))
        self.refused(NoSolution, amounts[:39], recurrence, amounts[:39])
        long = [pair(Fraction(draw.randrange(LONGER), draw.randrange(LONG, LONGER))) for _ in range(12)]
        self.assertEqual(len(next_amounts(long, 20)), 20)

    def test_glasses_tell_their_casks(self):
        draw = drawing(127)
        for yearly in [some_yearly(draw, casks) for casks in (2, 3, 4)] + [of_row(row) for row in ROWS[:8]]:
            amounts = [glass_amount(yearly, age) for age in range(1, 17)]
            self.assertEqual(told_casks(amounts), least_size(yearly))
            self.assertEqual(next_amounts(amounts, 3), [glass_amount(yearly, age) for age in (17, 18, 19)])


class Refusals(Case, unittest.TestCase):
    def test_yearly_cellars(self):
        good = of_row((HALF,))
        for value in NO_YEARLY:
            with self.subTest(value=value):
                for function in (alike_glasses, first_unlike):
                    self.refused(InvalidYearly, value, function, value, None)
                    self.refused(InvalidYearly, value, function, good, value)
                self.refused(InvalidYearly, value, least_size, value)
                self.refused(InvalidYearly, value, least_numbers, value)
                self.refused(InvalidYearly, value, numbers_hold, value, None)

    def test_amounts(self):
        for value in NO_AMOUNTS:
            with self.subTest(value=value):
                self.refused(InvalidFill, value, recurrence, value)
                self.refused(InvalidFill, value, told_casks, value)
                self.refused(InvalidFill, value, next_amounts, value, -1)
        self.refused(InvalidNumber, -1, next_amounts, [(0, 1)], -1)
        self.refused(InvalidNumber, -(10**40), next_amounts, many=-(10**40), amounts=[(1, 1), (1, 1)])


if __name__ == "__main__":
    unittest.main()
