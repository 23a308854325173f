import unittest
from fractions import Fraction
from itertools import product as choices

from caskyears.errors import BadCask, BadTold, InvalidNumber
from caskyears.unknowns import between, more_needed, next_glasses, open_casks, refusal, refusal_shows, shares_of
from caskyears.unknowns import some_shares
from tests.helper import ECHO, LONG, LONGER, NONE_OF_ANY, ODD, Case, drawing, end_of_aim
from tests.helper import number as value_of, pair, pairs, rank_by_rows

HALF = (1, 2)
TASTE = (pairs(1, 1), HALF)
NO_TASTES_INSIDE = NONE_OF_ANY + [
    (), (pairs(1, 1),), TASTE + (HALF,), list(TASTE), (list(pairs(1, 1)), HALF), (pairs(0, 0), HALF), (pairs(1), HALF),
    (pairs(1, 1, 0), HALF), (pairs(1, -1), HALF), (((1, 1), (2, 2)), HALF), (((1, 1), 1), HALF), (pairs(1, 1), (3, 2)),
    (pairs(1, 1), (-1, 2)), (pairs(1, 1), (2, 4)), (pairs(1, 1), 1), (pairs(1, 1), [1, 2]), (pairs(1, 1), None),
    (pairs(1, 1), (True, 1)), (((1, 1), ECHO), HALF), (pairs(1, 1), ECHO), ((), HALF), ({}, HALF), (None, HALF),
    (ECHO, ECHO),
]


def rows_by_hand(many, tastes):
    """Return the rows of all shares that fit."""
    unit = [[Fraction(at == cask) for at in range(many)] for cask in range(many)]
    rows = [([-entry for entry in row], Fraction(0)) for row in unit] + [(row, Fraction(1)) for row in unit]
    for parts, share in tastes:
        row = [value_of(entry) for entry in parts]
        rows += [(row, sum(row) * value_of(share)), ([-entry for entry in row], -sum(row) * value_of(share))]
    return rows


def fits(tastes, shares):
    """Return whether shares from 0 to 1 fit all tastes."""
    point = [value_of(entry) for entry in shares]
    if not all(0 <= entry <= 1 for entry in point):
        return False
    for parts, share in tastes:
        row = [value_of(entry) for entry in parts]
        if sum(x * y for x, y in zip(row, point)) != sum(row) * value_of(share):
            return False
    return True


def some_tastes(draw, many, count):
    """Return tastes, mostly such as some hidden shares would give."""
    hidden = [draw.choice([Fraction(0), Fraction(1), Fraction(1, 2), Fraction(2, 3)]) for _ in range(many)]
    tastes = []
    for _ in range(count):
        parts = [draw.choice([0, 0, 1, 2, Fraction(1, 2)]) for _ in range(many)]
        if not any(parts):
            parts[draw.randrange(many)] = 1
        share = sum((x * y for x, y in zip(parts, hidden)), Fraction(0)) / sum(parts)
        tastes.append((pairs(*parts), pair(share if draw.random() < 0.85 else Fraction(draw.randrange(4), 3))))
    return tuple(tastes)


def is_refusal(many, tastes, value):
    """Return whether three tuples show that no shares fit, each condition by itself."""
    told, low, high = [[value_of(entry) for entry in part] for part in value]
    if min(low + high) < 0:
        return False
    for cask in range(many):
        if sum(t * value_of(parts[cask]) for t, (parts, _) in zip(told, tastes)) - low[cask] + high[cask] != 0:
            return False
    sums = sum(t * value_of(share) * sum(value_of(entry) for entry in parts) for t, (parts, share) in zip(told, tastes))
    return sums + sum(high) < 0


class Unknowns(Case, unittest.TestCase):
    def test_ends_by_taking_out_unknowns(self):
        draw, seen = drawing(331), {"none": 0, "one": 0, "many": 0}
        for at in range(160):
            many = 1 + at % 3
            tastes = some_tastes(draw, many, draw.randrange(5))
            rows, ends = rows_by_hand(many, tastes), []
            for cask in range(many):
                aim = [Fraction(place == cask) for place in range(many)]
                most = end_of_aim(many, rows, aim)
                ends.append(None if most == "none" else (-end_of_aim(many, rows, [-entry for entry in aim]), most))
            for cask in range(many):
                self.assertEqual(between(many, tastes, cask), None if ends[cask] is None else pairs(*ends[cask]))
            if ends[0] is None:
                seen["none"] += 1
                self.check_none(draw, many, tastes)
            else:
                seen["one" if all(least == most for least, most in ends) else "many"] += 1
                self.check_some(many, tastes, ends)
        self.assertGreater(min(seen.values()), 15, seen)

    def check_none(self, draw, many, tastes):
        """Check tastes that no shares fit."""
        self.assertIsNone(shares_of(many, tastes))
        self.assertIsNone(some_shares(many, tastes))
        self.assertEqual(open_casks(many, tastes), [])
        self.refused(BadTold, tastes, more_needed, many, tastes)
        self.refused(BadTold, tastes, next_glasses, many, tastes)
        found = refusal(many, tastes)
        self.assertTrue(isinstance(found, tuple) and all(isinstance(entry, tuple) for entry in found))
        self.assertTrue(is_refusal(many, tastes, found))
        self.assertIs(refusal_shows(many, tastes, found), True)
        for _ in range(4):
            other = [list(part) for part in found]
            part = draw.choice(other)
            at = draw.randrange(len(part))
            part[at] = pair(value_of(part[at]) + draw.choice([1, -1, Fraction(1, LONG)]))
            other = tuple(tuple(part) for part in other)
            self.assertIs(refusal_shows(many, tastes, other), is_refusal(many, tastes, other))

    def check_some(self, many, tastes, ends):
        """Check tastes that some shares fit."""
        self.assertTrue(fits(tastes, some_shares(many, tastes)))
        self.assertIsNone(refusal(many, tastes))
        one = all(least == most for least, most in ends)
        self.assertEqual(shares_of(many, tastes), pairs(*[least for least, _ in ends]) if one else None)
        self.assertEqual(open_casks(many, tastes), [cask for cask, (least, most) in enumerate(ends) if least != most])
        # All shares that fit are told by rows that hold with 0 and 1 alone, so they have the dimension of these.
        fixed = [[Fraction(at == cask) for at in range(many)] for cask, (least, most) in enumerate(ends)
            if least == most]
        rows = fixed + [[value_of(entry) for entry in parts] for parts, _ in tastes]
        wanted = many - (rank_by_rows(rows) if rows else 0)
        self.assertEqual(more_needed(many, tastes), wanted)
        self.assertEqual(more_needed(many, tastes) == 0, one)
        self.check_glasses(many, tastes, wanted)

    def check_glasses(self, many, tastes, wanted):
        """Check that further glasses leave one tuple of shares alone, whatever they tell."""
        glasses = next_glasses(many, tastes)
        self.assertIsInstance(glasses, tuple)
        self.assertEqual(len(glasses), wanted)
        answers = set()
        for ends in choices((0, 1), repeat=many):
            told = list(tastes)
            for parts in glasses:
                rows, whole = rows_by_hand(many, told), sum(value_of(entry) for entry in parts)
                aim = [value_of(entry) / whole for entry in parts]
                most, least = end_of_aim(many, rows, aim), -end_of_aim(many, rows, [-entry for entry in aim])
                told.append((parts, pair(least + (most - least) * Fraction(1 + ends[len(told) - len(tastes)], 3))))
            answers.add(shares_of(many, tuple(told)))
        self.assertNotIn(None, answers)
        self.assertEqual(len(answers), 2**wanted)

    def test_edges(self):
        self.assertEqual(between(cask=7, tastes=(), number=8), pairs(0, 1))
        self.assertEqual(more_needed(tastes=(), number=8), 8)
        self.assertEqual(open_casks(tastes=(), number=3), [0, 1, 2])
        self.assertIsNone(shares_of(1, ()))
        self.assertEqual(shares_of(tastes=((pairs(5), (2, 3)),), number=1), ((2, 3),))
        none = ((pairs(0, 3), (1, 3)), (pairs(0, 1), (1, 2)))
        self.assertIsNone(some_shares(tastes=none, number=2))
        self.assertIs(refusal_shows(value=refusal(tastes=none, number=2), tastes=none, number=2), True)
        self.assertIsNone(refusal(1, ()))
        self.assertIs(refusal_shows(1, (), ((), pairs(1), pairs(1))), False)
        # A glass of 0 of the kind tells all casks in it, and 1 does, too.
        self.assertEqual(shares_of(2, ((pairs(1, 3), (0, 1)),)), pairs(0, 0))
        self.assertEqual(more_needed(3, ((pairs(1, 3, 0), (1, 1)),)), 1)
        self.assertEqual(open_casks(3, ((pairs(1, 3, 0), (1, 1)),)), [2])
        self.assertEqual(next_glasses(tastes=((pairs(1, 3, 0), (1, 1)),), number=3), (pairs(0, 0, 1),))
        self.all_new(open_casks, 3, (((pairs(1, 3, 0)), (1, 1)),))

    def test_papers_of_any_kind(self):
        none = ((pairs(0, 3), (1, 3)), (pairs(0, 1), (1, 2)))
        told, low, high = refusal(2, none)
        for value in NONE_OF_ANY + [(), (told, low), (told, low, high, ()), [told, low, high], (list(told), low, high),
            (told, list(low), high),
                (told, low, list(high)), (told[:1], low, high), (told + ((0, 1),), low, high),
                (told, low[:1], high), (told, low, high + ((0, 1),)),
                (None, low, high),
                (told, None, high), (told, low, None), (told, (ECHO, ECHO), high), ((ODD, ODD), low, high),
                (told, low, (None, (0, 1))),
                (((2, 2), (1, 1)), low, high), (told, ((0, 2), (0, 1)), high),
                (((0, 1),) * 2, ((0, 1),) * 2, ((0, 1),) * 2)]:
            with self.subTest(value=value):
                self.assertIs(refusal_shows(2, none, value), False)

    def test_at_the_limits(self):
        draw, far = drawing(332), 10**30
        hidden = [Fraction(draw.randrange(far), far + 57) for _ in range(8)]
        tastes = []
        for _ in range(8):
            parts = [Fraction(draw.randrange(1, far), draw.randrange(1, far)) for _ in range(8)]
            tastes.append((pairs(*parts), pair(sum(x * y for x, y in zip(parts, hidden)) / sum(parts))))
        self.assertEqual(shares_of(8, tuple(tastes)), pairs(*hidden))
        self.assertEqual(more_needed(8, tuple(tastes[:3])), 5)
        self.assertEqual(open_casks(8, tuple(tastes[:3])), list(range(8)))
        self.assertTrue(fits(tastes[:3], some_shares(8, tuple(tastes[:3]))))
        wrong = tuple(tastes) + ((tastes[0][0], pair(value_of(tastes[0][1]) / 2)),)
        self.assertTrue(is_refusal(8, wrong, refusal(8, wrong)))


class Refusals(Case, unittest.TestCase):
    CALLS = [(shares_of, ()), (some_shares, ()), (refusal, ()), (refusal_shows, (None,)), (between, (None,)),
        (open_casks, ()),
        (more_needed, ()), (next_glasses, ())]

    def test_wrong_inputs(self):
        for function, more in self.CALLS:
            for many in (0, -1, 9, 10**50):
                self.refused(InvalidNumber, many, function, many, None, *more)
            for value in NO_TASTES_INSIDE:
                with self.subTest(value=value):
                    self.refused(BadTold, (value,), function, 2, (value,), *more)
                    self.refused(BadTold, (TASTE, value), function, 2, (TASTE, value), *more)
            for value in NONE_OF_ANY + [[], [TASTE], TASTE, {0: TASTE}]:
                self.refused(BadTold, value, function, 2, value, *more)
            self.refused(BadTold, (TASTE,), function, 3, (TASTE,), *more)
        for cask in (-1, 2, 10**50, None, True, "0", [0], (0,)):
            self.refused(BadCask, cask, between, 2, (TASTE,), cask)
        self.refused(BadTold, ((pairs(1, 1), pair(LONGER, LONG)),), between, 2, ((pairs(1, 1), pair(LONGER, LONG)),), 5)


if __name__ == "__main__":
    unittest.main()
