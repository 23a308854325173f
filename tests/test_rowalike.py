import unittest
from fractions import Fraction
from itertools import permutations

from caskyears.errors import InvalidFill, InvalidRow, NoSolution, Unlike
from caskyears.rowalike import alike_at_tap, first_unlike_age, first_unlike_stage, freest_order, told_row
from caskyears.rows import tap_amount
from tests.helper import LONG, LONGER, NONE_OF_ANY, Case, drawing, long_row, number, pair, pairs, some_row, work_row
from tests.test_rows import NO_ROWS, ROWS

HALF = (1, 2)
HALF_OF_ONE = Fraction(1, 2)
THIRD = (1, 3)
NO_TOLD = NONE_OF_ANY + [
    [], [(0, 1)] * 12, [(0, 1)] * 101, ((0, 1),) * 13, [(0, 1)] * 12 + [None], [(0, 1)] * 12 + [(2, 4)], [0] * 13,
    [(0, 1)] * 12 + [[0, 1]], [(0, 1)] * 12 + [(True, 1)], [None] * 13, {0: (0, 1)}, [(0, 1)] * 12 + [1],
]


def taps_of(shares, many):
    """Return the list of so many amounts at the tap of stages of any number and any shares, from the age 0 on."""
    amounts = [Fraction(1)] + [Fraction(0)] * (many - 1)
    for share in shares:
        # Behind one more stage wine is a year older or waits for one more year.
        later = [Fraction(0)]
        for ahead in amounts[:-1]:
            later.append(later[-1] * (1 - share) + ahead * share)
        amounts = later
    return amounts


class AlikeAtTap(Case, unittest.TestCase):
    def test_sequences(self):
        draw = drawing(101)
        for row in ROWS[:8] + [some_row(draw, many) for many in (2, 3, 4)]:
            others = list(permutations(row))[:24] + [some_row(draw, len(row)), row[1:] or row, row[:5] + row[:1]]
            for other in others:
                ages = len(row) + len(other)
                mine, theirs = taps_of(map(number, row), 40), taps_of(map(number, other), 40)
                self.assertEqual([tap_amount(row, age) for age in range(ages)], list(pairs(*mine[:ages])))
                wanted = next((age for age in range(40) if mine[age] != theirs[age]), None)
                self.assertEqual(first_unlike_age(row, other), wanted)
                self.assertIs(alike_at_tap(row, other), wanted is None)
                self.assertIs(alike_at_tap(row, other), sorted(row) == sorted(other))

    def test_edges(self):
        self.assertIs(alike_at_tap(one=(HALF,), other=(HALF, (1, 1))), False)
        self.assertEqual(first_unlike_age(other=(HALF, (1, 1)), one=(HALF,)), 1)
        self.assertIs(alike_at_tap((HALF, HALF), (HALF,)), False)
        # The same product of the shares: unlike one age later, which is as far as two stages and two are.
        self.assertEqual(first_unlike_age((HALF, HALF), pairs(Fraction(1, 4), 1)), 3)
        self.assertEqual(first_unlike_age((HALF,), (THIRD,)), 1)
        self.assertIsNone(first_unlike_age(pairs(1, 1), pairs(1, 1)))
        near = Fraction(LONG, LONGER)
        one, other = pairs(near, near), pairs(near - Fraction(1, LONGER**2), near)
        self.assertEqual([alike_at_tap(one, other), first_unlike_age(one, other)], [False, 2])

    def test_long_rows(self):
        row = long_row(drawing(102), 6)
        self.assertIsNone(first_unlike_age(row, row[::-1]))
        self.assertIs(alike_at_tap(row, row[3:] + row[:3]), True)


class ToldRows(Case, unittest.TestCase):
    def check(self, shares, many):
        """Check that the taps of shares tell just these."""
        told = [pair(much) for much in taps_of(shares, many)]
        found = told_row(told)
        self.assertEqual(found, pairs(*sorted(shares)))

    def test_ordinary_ones(self):
        draw = drawing(103)
        for row in ROWS + [some_row(draw, many) for many in [1, 2, 3, 4, 5, 6] * 4]:
            self.check([number(share) for share in row], draw.choice([13, 14, 20, 40]))
        self.check([Fraction(1)], 100)
        self.check([Fraction(1)] * 6, 13)
        self.check([Fraction(1, 2)] * 6, 100)
        self.assertEqual(told_row(amounts=[pair(much) for much in taps_of([Fraction(1, 2)], 13)]), (HALF,))

    def test_long_shares(self):
        row = long_row(drawing(104), 6)
        self.check([number(share) for share in row], 13)
        near = Fraction(LONG, LONGER)
        self.check([near, near, near - Fraction(1, LONGER)], 30)

    def test_what_no_row_gives(self):
        root = [Fraction(0), Fraction(0), Fraction(1, 8), Fraction(1, 8)]
        for _ in range(20):
            # The shares of two stages that each keep a half, more or less the root of an eighth: no fractions.
            root.append(root[-1] - root[-2] / 8)
        wrong = [
            root, taps_of([Fraction(1, 2)] * 7, 20), taps_of([Fraction(3, 2)], 20), taps_of([Fraction(-1, 2)], 20),
            taps_of([Fraction(1, 2), Fraction(4, 3)], 20), [Fraction(0)] * 13, [Fraction(1)] + [Fraction(0)] * 12,
            [Fraction(0), Fraction(1, 2)] + [Fraction(1, 2)] * 11, [Fraction(0), Fraction(-1, 2)] + [Fraction(0)] * 11,
            [Fraction(0)] * 12 + [Fraction(1)], taps_of([], 13), [Fraction(0), Fraction(2)] + [Fraction(0)] * 11,
            [2 * much for much in taps_of([Fraction(1, 2), Fraction(1, 3)], 15)],
            # Stages that keep all roots of a third power: one fraction, and two that are no numbers of the line.
            [Fraction(0)] * 3 + [Fraction(7, 8)] + [Fraction(7, 8) / 8 ** (at // 3) if at % 3 == 0 else Fraction(0)
                for at in range(1, 12)],
        ]
        for amounts in wrong:
            told = [pair(much) for much in amounts]
            with self.subTest(told=told):
                self.refused(NoSolution, told, told_row, told)

    def test_one_amount_that_is_wrong(self):
        for shares in ([Fraction(1, 2)], [Fraction(1, 2), Fraction(1, 3)], [Fraction(1, 3)] * 6, [Fraction(1)] * 2):
            amounts = taps_of(shares, 100)
            for at in (0, 1, len(shares), len(shares) + 1, 7, 12, 13, 50, 99):
                told = [pair(much) for much in amounts]
                told[at] = pair(amounts[at] + Fraction(1, LONG))
                self.refused(NoSolution, told, told_row, told)

    def test_what_is_no_list(self):
        for value in NO_TOLD:
            with self.subTest(value=value):
                self.refused(InvalidFill, value, told_row, value)
        self.refused(InvalidFill, None, told_row, amounts=None)


class Stages(Case, unittest.TestCase):
    def test_first_unlike_stage(self):
        draw = drawing(105)
        for many in [1, 2, 3, 4, 6] * 8:
            one = some_row(draw, many)
            other = tuple(draw.choice([mine, theirs]) for mine, theirs in zip(one, some_row(draw, many)))
            mine, theirs = work_row(one, 9), work_row(other, 9)
            wanted = None
            for year in range(10):
                for stage in range(many):
                    if wanted is None and mine[year][1][stage] != theirs[year][1][stage]:
                        wanted = (year, stage)
            self.assertEqual(first_unlike_stage(one, other), wanted)
        self.assertEqual(first_unlike_stage(other=pairs(1, 1, 1, 1, 1, HALF_OF_ONE), one=pairs(*[1] * 6)), (6, 5))
        self.assertIsNone(first_unlike_stage((HALF,), (HALF,)))
        self.refused(Unlike, 1, first_unlike_stage, (HALF, HALF), (HALF,))
        self.refused(Unlike, 3, first_unlike_stage, other=(HALF,) * 3, one=(HALF,))

    def test_freest_order(self):
        draw = drawing(106)
        for row in ROWS + [some_row(draw, many) for many in [1, 2, 3, 4, 5] * 4]:
            least = min(permutations([number(share) for share in row]), key=lambda shares: [1 / at for at in shares])
            self.assertEqual(freest_order(row), pairs(*least))
        self.assertEqual(freest_order(row=(THIRD, HALF, THIRD)), (HALF, THIRD, THIRD))


class Refusals(Case, unittest.TestCase):
    def test_rows(self):
        for value in NO_ROWS:
            with self.subTest(value=value):
                for function in (alike_at_tap, first_unlike_age, first_unlike_stage):
                    self.refused(InvalidRow, value, function, value, None)
                    self.refused(InvalidRow, value, function, (HALF,), value)
                self.refused(InvalidRow, value, freest_order, value)


if __name__ == "__main__":
    unittest.main()
