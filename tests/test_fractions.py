import unittest
from fractions import Fraction

from caskyears.errors import InvalidFraction, InvalidNumber
from caskyears.fractions import compared, fraction, is_fraction, is_share, less, over, plus, sum_of, times
from tests.helper import LONG, LONGER, NONE_OF_ANY, ODD, Case, number, pair

NO_FRACTIONS = NONE_OF_ANY + [
    (), (1,), (1, 2, 3), [1, 2], (2, 4), (0, 2), (0, 0), (1, 0), (1, -2), (-1, -2), (3, 3), (True, 1), (1, True),
    (True, True), (False, 1), (None, 1), (1, None), ("1", "2"), ((1, 2), 1), ([1], 1), (2 * LONG, 2 * LONG + 2),
    ([1, 2], [3]), (1, [2, [3]]), (ODD, 1), ("1", 1), ("ab", "cd"), "12", {1: 2, 3: 4},
]
NUMBERS = [
    Fraction(above, below) for above in range(-6, 7) for below in (1, 2, 3, 4, 6)
] + [Fraction(LONG, LONGER), Fraction(-LONGER, LONG), Fraction(LONGER), Fraction(-1, LONGER)]


class Kinds(unittest.TestCase):
    def test_fractions(self):
        for value in [(0, 1), (1, 1), (-1, 1), (1, 2), (-3, 2), (7, 3), (LONG, LONGER), (-LONGER, LONG)]:
            self.assertIs(is_fraction(value), True, value)
        for value in NO_FRACTIONS:
            self.assertIs(is_fraction(value), False, value)

    def test_shares(self):
        for value in [(0, 1), (1, 1), (1, 2), (2, 3), (LONG, LONGER)]:
            self.assertIs(is_share(value), True, value)
        for value in NO_FRACTIONS + [(-1, 2), (-1, 1), (3, 2), (2, 1), (LONGER, LONG)]:
            self.assertIs(is_share(value), False, value)

    def test_by_name(self):
        self.assertIs(is_fraction(value=(1, 2)), True)
        self.assertIs(is_share(value=(1, 2)), True)


class Reckoning(Case, unittest.TestCase):
    def test_fraction(self):
        for above in [*range(-12, 13), LONG, -LONGER]:
            for below in [*range(-6, 0), *range(1, 7), LONGER, -LONG]:
                found = fraction(above, below)
                self.assertEqual(found, pair(Fraction(above, below)))
                self.assertTrue(is_fraction(found))
        self.assertEqual(fraction(below=-4, above=6), (-3, 2))

    def test_two_of_them(self):
        for one in NUMBERS:
            for other in NUMBERS:
                mine, theirs = pair(one), pair(other)
                self.assertEqual(plus(mine, theirs), pair(one + other))
                self.assertEqual(less(mine, theirs), pair(one - other))
                self.assertEqual(times(mine, theirs), pair(one * other))
                self.assertIs(compared(mine, theirs), (one > other) - (one < other))
                if other:
                    self.assertEqual(over(mine, theirs), pair(one / other))

    def test_by_name(self):
        named = {"other": (1, 3), "one": (1, 2)}
        self.assertEqual(plus(**named), (5, 6))
        self.assertEqual(less(**named), (1, 6))
        self.assertEqual(times(**named), (1, 6))
        self.assertEqual(over(**named), (3, 2))
        self.assertEqual(compared(**named), 1)

    def test_sums(self):
        self.assertEqual(sum_of([]), (0, 1))
        self.assertEqual(sum_of([pair(entry) for entry in NUMBERS]), pair(sum(NUMBERS)))
        self.assertEqual(number(sum_of(fractions=[(1, 2), (1, 2), (-1, 1)])), 0)


class Refusals(Case, unittest.TestCase):
    def test_nothing_below(self):
        self.refused(InvalidNumber, 0, fraction, 3, 0)
        self.refused(InvalidNumber, 0, fraction, above=0, below=0)

    def test_what_is_no_fraction(self):
        for function in (plus, less, times, over, compared):
            for value in NO_FRACTIONS:
                with self.subTest(function=function.__name__, value=value):
                    self.refused(InvalidFraction, value, function, value, (1, 2))
                    self.refused(InvalidFraction, value, function, (1, 2), value)
                    self.refused(InvalidFraction, value, function, other=(2, 2), one=value)

    def test_the_first_one_of_a_list(self):
        for value in NO_FRACTIONS:
            with self.subTest(value=value):
                self.refused(InvalidFraction, value, sum_of, [(1, 2), value, (2, 2)])

    def test_over_nothing(self):
        self.refused(InvalidFraction, (0, 1), over, (1, 2), (0, 1))
        self.refused(InvalidFraction, (2, 2), over, (2, 2), (0, 1))
        self.refused(InvalidFraction, (0, 1), over, (0, 1), other=(0, 1))

    def test_the_error_keeps_what_was_passed(self):
        value = [1, [2]]
        with self.assertRaises(InvalidFraction) as caught:
            plus(value, (1, 1))
        value[1].append(3)
        value.append(4)
        self.assertEqual(caught.exception.value, [1, [2]])


if __name__ == "__main__":
    unittest.main()
