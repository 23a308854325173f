import unittest
from fractions import Fraction

from caskyears.errors import InvalidFraction, InvalidNumber, InvalidRow, TooMany
from caskyears.rowages import label_from, mean_age, middle_age, older, older_in, spread
from caskyears.rows import tap, tap_amount
from tests.helper import LONG, LONGER, NONE_OF_ANY, PRIME, Case, drawing, long_row, modulo, number, pair, pairs
from tests.helper import some_row
from tests.test_rows import NO_ROWS, ROWS

HALF = (1, 2)
ONES = pairs(1, 1, 1)
NO_SHARES = NONE_OF_ANY + [(-1, 2), (2, 4), (1, 0), [1, 2], (True, 2), (3, 2), (LONGER + 1, LONGER)]


def given(row, last):
    """Return the list of what the tap gives of each age, as Python's fractions."""
    return [number(tap_amount(row, age)) for age in range(last + 1)]


def share_in(amounts, age, year):
    """Return the share of an age or more of what the tap gives in a year, None if it gives nothing."""
    whole = sum(amounts[: year + 1])
    return sum(amounts[age : year + 1]) / whole if whole else None


class FullTap(Case, unittest.TestCase):
    def test_means(self):
        draw = drawing(91)
        for row in ROWS[:8] + [some_row(draw, many) for many in (1, 2, 4, 6)]:
            amounts = given(row, 220)
            mean = sum(age * much for age, much in enumerate(amounts))
            squares = sum(age * age * much for age, much in enumerate(amounts))
            for found, wanted in ((mean_age(row), mean), (spread(row), squares - mean * mean)):
                self.assertLess(abs(number(found) - wanted), Fraction(1, 10**6))
        self.assertEqual([mean_age(row=ONES), spread(row=ONES)], [(3, 1), (0, 1)])
        self.assertEqual([mean_age((HALF, HALF)), spread((HALF, HALF))], [(4, 1), (4, 1)])
        share = Fraction(LONG, LONGER)
        self.assertEqual(mean_age(pairs(share, 1)), pair(1 / share + 1))
        self.assertEqual(spread(pairs(share, 1)), pair((1 - share) / share**2))

    def test_older(self):
        draw = drawing(92)
        for row in ROWS + [some_row(draw, many) for many in (1, 3, 6)]:
            amounts = given(row, 20)
            for age in range(21):
                self.assertEqual(older(row, age), pair(1 - sum(amounts[:age])))
        self.assertEqual([older(ONES, age) for age in (0, 3, 4, 300)], list(pairs(1, 1, 0, 0)))
        self.assertEqual(older(age=300, row=(HALF,)), (1, 2**299))
        self.assertEqual(older((HALF,), 301), (1, 2**300))

    def test_middle_age(self):
        draw = drawing(93)
        for row in ROWS[:9] + [some_row(draw, many) for many in [1, 2, 4, 6] * 3]:
            amounts = given(row, 80)
            wanted = next(age for age in range(81) if 2 * sum(amounts[: age + 1]) >= 1)
            self.assertEqual(middle_age(row), wanted)
        self.assertEqual(middle_age(row=ONES), 3)

    def test_middle_age_at_300(self):
        share = Fraction(231, 100000)
        self.assertTrue((1 - share) ** 300 <= Fraction(1, 2) < (1 - share) ** 299)
        self.assertEqual(middle_age(pairs(share)), 300)
        share = Fraction(23, 10000)
        self.assertTrue((1 - share) ** 301 > Fraction(1, 2))
        self.refused(TooMany, 300, middle_age, pairs(share))
        self.refused(TooMany, 300, middle_age, pairs(Fraction(1, LONGER), 1))


class Labels(Case, unittest.TestCase):
    def test_older_in(self):
        draw = drawing(94)
        for row in ROWS + [some_row(draw, many) for many in (1, 2, 3, 6)]:
            amounts = given(row, 14)
            for year in range(15):
                self.assertEqual(older_in(row, 0, year), None if year < len(row) else (1, 1))
                for age in range(15):
                    wanted = share_in(amounts, age, year)
                    self.assertEqual(older_in(row, age, year), None if wanted is None else pair(wanted))
        self.assertIsNone(older_in(ONES, 0, 0))
        self.assertIsNone(older_in(ONES, 5, 2))
        self.assertEqual(older_in(year=3, age=3, row=ONES), (1, 1))
        self.assertEqual(older_in(ONES, 4, 300), (0, 1))

    def test_by_going_through(self):
        draw = drawing(95)
        words = {"none": 0, "far": 0, "near": 0}
        for row in ROWS[:9] + [some_row(draw, many) for many in [1, 2, 3, 6] * 2]:
            amounts = given(row, 80)
            for age in (0, 1, 2, 3, 5, 8):
                for share in (Fraction(0), Fraction(1, 10), Fraction(1, 2), Fraction(9, 10), Fraction(1)):
                    words[self.check(row, amounts, age, share)] += 1
        self.assertGreater(min(words["none"], words["near"]), 30)

    def check(self, row, amounts, age, share):
        """Check a label by the shares of 80 years; return whether it never holds, or from which year on."""
        shares = [share_in(amounts, age, year) for year in range(81)]
        holds = [there is not None and there >= share for there in shares]
        found = label_from(row, age, pair(share))
        if found is None:
            self.assertFalse(any(holds))
            self.assertLess(1 - sum(amounts[:age]), share + Fraction(1, 10**9))
            return "none"
        self.assertEqual(holds[found:], [True] * len(holds[found:]))
        self.assertFalse(any(holds[:found]))
        return "far" if found > 80 else "near"

    def test_edges(self):
        self.assertEqual(label_from(row=ONES, age=3, share=(1, 1)), 3)
        self.assertEqual(label_from(ONES, 0, (1, 1)), 3)
        self.assertIsNone(label_from(ONES, 4, (1, LONGER)))
        self.assertEqual(label_from(ONES, 4, (0, 1)), 3)
        self.assertEqual(label_from((HALF,), 300, (0, 1)), 1)
        # What the full tap just reaches no year does.
        self.assertIsNone(label_from((HALF,), 2, HALF))
        self.assertEqual(label_from((HALF,), 2, pair(Fraction(1, 2) - Fraction(1, 2**40))), 40)
        self.assertIsNone(label_from((HALF,), 2, (1, 1)))
        self.assertEqual(label_from((HALF,), 1, (1, 1)), 1)

    def test_at_300(self):
        for year in (5, 299, 300):
            share = 1 - Fraction(1, 2) / (1 - Fraction(1, 2**year))
            self.assertEqual(label_from((HALF,), 2, pair(share)), year)
        share = 1 - Fraction(1, 2) / (1 - Fraction(1, 2**300)) + Fraction(1, 2**700)
        self.refused(TooMany, 300, label_from, (HALF,), 2, pair(share))
        self.assertEqual(label_from((HALF,), 300, (1, 2**300)), 300)
        self.refused(TooMany, 300, label_from, (HALF,), 301, (1, 2**302))
        self.assertIsNone(label_from((HALF,), 301, (1, 2**300)))
        self.refused(TooMany, 300, label_from, pairs(Fraction(1, LONGER)), 301, (1, 3))

    def test_long_shares_at_the_limit(self):
        row = long_row(drawing(96), 6)
        amounts = {wine: modulo(much) for wine, much in tap(row, 300)}
        whole = sum(amounts.values())
        old = sum(much for wine, much in amounts.items() if 300 - wine >= 120)
        self.assertEqual(modulo(older_in(row, 120, 300)), old * pow(whole, -1, PRIME) % PRIME)
        year = label_from(row, 40, (1, 100))
        self.assertTrue(number(older_in(row, 40, year)) >= Fraction(1, 100) > number(older_in(row, 40, year - 1)))


class Refusals(Case, unittest.TestCase):
    def test_rows(self):
        for value in NO_ROWS:
            with self.subTest(value=value):
                for function in (mean_age, spread, middle_age):
                    self.refused(InvalidRow, value, function, value)
                self.refused(InvalidRow, value, older, value, -1)
                self.refused(InvalidRow, value, older_in, value, -1, -1)
                self.refused(InvalidRow, value, label_from, value, -1, None)

    def test_numbers(self):
        self.refused(InvalidNumber, -1, older, (HALF,), -1)
        self.refused(InvalidNumber, -2, older_in, (HALF,), -2, -3)
        self.refused(InvalidNumber, -3, older_in, (HALF,), 2, -3)
        self.refused(InvalidNumber, -(10**40), label_from, (HALF,), -(10**40), None)
        self.refused(InvalidNumber, -1, label_from, share=HALF, age=-1, row=(HALF,))
        for value in NO_SHARES:
            with self.subTest(value=value):
                self.refused(InvalidFraction, value, label_from, (HALF,), 0, value)


if __name__ == "__main__":
    unittest.main()
