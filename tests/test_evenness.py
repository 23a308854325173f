import unittest
from fractions import Fraction
from itertools import combinations, permutations, product as choices

from caskyears.deeds import is_deed, run
from caskyears.errors import InvalidFill, Unlike
from caskyears.evenness import exchanges, exchanges_hold, fewest, fewest_exchanges, first_gap, is_more_even, join, meet
from tests.helper import LONG, LONGER, NONE_OF_ANY, Case, amounts_of, drawing, fill, number, pair, pairs

NO_AMOUNTS = NONE_OF_ANY + [
    (), [], [(1, 1)], ((1, 1), None), ((-1, 1),), ((1, 1), (2, 2)), ((True, 1),), (1,), ([1, 1],), ((1, 1),) * 8,
    ((1, 1), ()),
    ((1, 1), (-1, 2)), {(1, 1): 1}, "ab", ((1, 0),), (((1, 1),),),
]


def gap(one, other):
    """Return what first_gap does, of lists of numbers, by all sums of greatest ones."""
    if sum(one) != sum(other):
        return 0
    for many in range(1, len(one) + 1):
        most = [max(sum(some) for some in combinations(amounts, many)) for amounts in (one, other)]
        if most[1] > most[0]:
            return many
    return None


def most_blocks(one, other):
    """Return the most blocks by going through all first ones, with all casks of their own, None without any."""
    if not one:
        return 0
    best = None
    for many in range(len(one)):
        for rest in combinations(range(1, len(one)), many):
            mine = (0, *rest)
            for theirs in combinations(range(len(other)), many + 1):
                if gap([one[at] for at in mine], [other[at] for at in theirs]) is None:
                    left = most_blocks(leave(one, mine), leave(other, theirs))
                    if left is not None and (best is None or left + 1 > best):
                        best = left + 1
    return best


def leave(amounts, places):
    """Return the list of the amounts in other places."""
    return [amount for at, amount in enumerate(amounts) if at not in places]


def swapped(amounts, deeds):
    """Return the list of the amounts behind exchanges."""
    cellar = tuple(fill(x=amount) if amount else () for amount in amounts)
    return amounts_of(run(cellar, deeds)[-1], "x")


def reachable(one, many, below):
    """Return the list of all amounts that so many swaps of shares with a number below lead to."""
    states = [list(one)]
    for _ in range(many):
        further = []
        for amounts in states:
            for first, second in combinations(range(len(amounts)), 2):
                for above in range(below + 1):
                    further.append(swapped(amounts, [("swap", first, second, pair(Fraction(above, below)))]))
        states = further
    return states


class Evenness(Case, unittest.TestCase):
    def both(self, one, other):
        """Check all that is told of two lists of numbers; return the fewest exchanges."""
        mine, theirs = pairs(*one), pairs(*other)
        where = gap(one, other)
        self.assertEqual(first_gap(mine, theirs), where)
        self.assertIs(is_more_even(mine, theirs), where is None)
        if where is not None:
            for function in (exchanges, fewest, fewest_exchanges):
                self.assertIs(function(mine, theirs), None)
            return None
        least = fewest(mine, theirs)
        some, best = self.all_new(exchanges, mine, theirs), self.all_new(fewest_exchanges, mine, theirs)
        self.assertLess(len(some), len(one))
        self.assertEqual(len(best), least)
        for deeds in (some, best):
            self.assertIs(type(deeds), list)
            self.assertTrue(all(is_deed(deed) and deed[0] == "swap" for deed in deeds))
            self.assertEqual(sorted(swapped(one, deeds)), sorted(other))
            self.assertIs(exchanges_hold(mine, theirs, len(deeds), deeds), True)
            self.assertIs(exchanges_hold(mine, theirs, len(deeds) - 1, deeds), False)
        return least

    def test_all_of_few(self):
        for casks, most in ((1, 3), (2, 3), (3, 3)):
            for one in choices(range(most + 1), repeat=casks):
                for other in choices(range(most + 1), repeat=casks):
                    least = self.both(list(one), list(other))
                    if least is not None:
                        self.assertEqual(least, casks - most_blocks(list(one), list(other)))

    def test_some_of_many(self):
        draw = drawing(81)
        found = {}
        for casks in [4, 5] * 20 + [6, 7] * 4:
            one = [Fraction(draw.randrange(9), draw.choice([1, 1, 2])) for _ in range(casks)]
            other = list(one)
            for _ in range(draw.randrange(1, casks)):
                first, second = draw.sample(range(casks), 2)
                moved = draw.randrange(5) * (other[first] - other[second]) / draw.choice([4, 6, 8])
                other[first], other[second] = other[first] - moved, other[second] + moved
            draw.shuffle(other)
            least = self.both(one, other)
            if casks < 7:
                self.assertEqual(least, casks - most_blocks(one, other))
            found[least] = found.get(least, 0) + 1
            self.both(other, one)
        self.assertGreater(len(found), 4, found)

    def test_fewest_is_least(self):
        # What one and two exchanges by quarters lead to is told to need no more.
        for one in ([4, 0, 0], [4, 2, 0], [5, 1, 1, 0]):
            for many in (1, 2):
                for other in reachable(one, many, 4)[::7]:
                    self.assertLessEqual(fewest(pairs(*one), pairs(*other)), many)

    def test_blocks(self):
        for one, other, least in [
            ([2, 0, 4, 0], [1, 1, 2, 2], 2), ([4, 1, 1], [2, 2, 2], 2), ([2, 2, 2, 0, 0, 0], [1] * 6, 3),
            ([6, 5, 4, 3, 2, 1, 0], [3] * 7, 3),
            ([9, 0, 0, 0, 0, 0, 0], [Fraction(9, 7)] * 7, 6), ([1] * 7, [1] * 7, 0), ([0] * 7, [0] * 7, 0),
            ([5, 3, 1], [1, 5, 3], 0),
            ([7, 0, 5, 0, 3, 0, 1], [1, 4, 3, 2, 3, Fraction(5, 2), Fraction(1, 2)], 3),
            ([3, 1], [Fraction(5, 2), Fraction(3, 2)], 1),
            ([5, 4, 3, 0, 0, 0], [3, 3, 3, 2, 1, 0], 2), ([13, 11, 11, 4, 1], [11, 10, 9, 8, 2], 2),
            ([8, 7, 3, 0, 0, 0], [6, 5, 2, 2, 2, 1], 3), ([11, 9, 7, 1, 0, 0], [6, 6, 5, 5, 3, 3], 3),
            ([13, 12, 8, 8, 4, 4, 0], [11, 10, 8, 6, 6, 6, 2], 3),
            ([Fraction(LONG), 0, Fraction(1, LONGER)], [Fraction(LONG, 2), Fraction(LONG, 2), Fraction(1, LONGER)], 1),
        ]:
            self.assertEqual(self.both(one, other), least, (one, other))

    def test_first_gap(self):
        for one, other, where in [
            ([1, 1], [2, 1], 0), ([1, 1], [2, 0], 1), ([4, 1, 1], [3, 3, 0], 2), ([3, 3, 0], [4, 1, 1], 1),
            ([3, 2, 2, 1], [3, 2, 3, 0], 2),
            ([4, 4, 1, 1], [4, 3, 3, 0], 3), ([0], [0], None), ([1], [2], 0), ([LONG, LONGER], [LONG, LONGER + 1], 0),
        ]:
            self.assertEqual(first_gap(pairs(*one), pairs(*other)), where)
            self.both(one, other)

    def test_by_name(self):
        named = {"other": pairs(1, 1), "one": pairs(2, 0)}
        self.assertIs(is_more_even(**named), True)
        self.assertIs(first_gap(**named), None)
        self.assertEqual(exchanges(**named), [("swap", 0, 1, (1, 2))])
        self.assertEqual(fewest(**named), 1)
        self.assertEqual(len(fewest_exchanges(**named)), 1)
        self.assertIs(exchanges_hold(value=[("swap", 1, 0, (1, 2))], most=1, **named), True)
        self.assertEqual(meet(**named), pairs(1, 1))
        self.assertEqual(join(**named), pairs(2, 0))

    def test_what_holds(self):
        one, other, half = pairs(4, 0, 2), pairs(3, 1, 2), (1, 2)
        good = [("swap", 0, 1, (1, 4))]
        for most, value, holds in [
            (1, good, True), (5, good, True), (10**40, good, True), (0, good, False), (-1, good, False),
            (1, tuple(good), False),
            (1, [("swap", 1, 0, (3, 4))], True), (1, [("swap", 0, 1, half)], False),
            (1, [("move", 0, 1, (1, 4))], False),
            (1, [["swap", 0, 1, (1, 4)]], False), (1, [("swap", 0, 3, (1, 4))], False),
            (3, good + [("swap", 0, 2, (1, 1))] * 2, True),
            (2, good + [("swap", 0, 2, (1, 1))], True), (2, good + [("draw", 0, (0, 1))], False),
            (2, good + [("swap", 0, 7, (0, 1))], False),
            (2, good + [None], False), (2, [], False), (1, [("swap", 0, 1, (2, 8))], False),
            (2, good + [("keep", 0, (1, 1))], False),
            (2, good + [("add", 0, ())], False), (1, None, False), (1, {}, False), (1, [("swap", 0, 0, (1, 4))], False),
        ]:
            self.assertIs(exchanges_hold(one, other, most, value), holds, (most, value))
        self.assertIs(exchanges_hold(one, pairs(2, 4, 0), 0, []), True)
        self.assertIs(exchanges_hold(one, pairs(2, 4, 0), -1, []), False)
        self.assertIs(exchanges_hold(one, pairs(2, 4, 1), 0, []), False)
        for value in NONE_OF_ANY:
            self.assertIs(exchanges_hold(one, one, 5, value), False, value)


def leads(one, other):
    """Return whether the one numbers lead to the other ones."""
    return gap(one, other) is None


class Lattice(Case, unittest.TestCase):
    def test_against_all_of_few(self):
        draw = drawing(82)
        every = [entry for entry in choices(range(7), repeat=4) if sum(entry) == 6
            and list(entry) == sorted(entry, reverse=True)]
        for one in every:
            for other in every:
                low, high = meet(pairs(*one), pairs(*other)), join(pairs(*one), pairs(*other))
                low, high = [number(entry) for entry in low], [number(entry) for entry in high]
                for found in (low, high):
                    self.assertEqual(found, sorted(found, reverse=True))
                    self.assertEqual(sum(found), 6)
                self.assertTrue(leads(one, low) and leads(other, low) and leads(high, one) and leads(high, other))
                for third in draw.sample(every, 4):
                    self.assertEqual(leads(one, third) and leads(other, third), leads(low, third))
                    self.assertEqual(leads(third, one) and leads(third, other), leads(third, high))

    def test_against_amounts_in_parts(self):
        one, other = (6, 3, 3, 0), (5, 5, 1, 1)
        low = [number(entry) for entry in meet(pairs(*one), pairs(*other))]
        high = [number(entry) for entry in join(pairs(*one), pairs(*other))]
        every = [tuple(Fraction(entry, 2) for entry in some) for some in choices(range(25), repeat=3)
            if sum(some) <= 24]
        for some in every[::5]:
            third = (*some, 12 - sum(some))
            self.assertEqual(leads(one, third) and leads(other, third), leads(low, third))
            self.assertEqual(leads(third, one) and leads(third, other), leads(third, high))

    def test_some(self):
        half = Fraction(1, 2)
        for one, other, low, high in [
            ((4, 1, 1), (3, 3, 0), (3, 2, 1), (4, 2, 0)), ((1, 0, 2), (2, 1, 0), (2, 1, 0), (2, 1, 0)),
            ((0, 0), (0, 0), (0, 0), (0, 0)), ((3,), (3,), (3,), (3,)), ((2, 2, 2), (6, 0, 0), (2, 2, 2), (6, 0, 0)),
            ((4, 4, 4, 0), (6, 2, 2, 2), (4, 4, 2, 2), (6, 3, 3, 0)),
            ((0, LONG, LONG), (2 * LONG, 0, 0), (LONG, LONG, 0), (2 * LONG, 0, 0)),
            ((half, Fraction(1, 3)), (0, Fraction(5, 6)), (half, Fraction(1, 3)), (Fraction(5, 6), 0)),
            ((5, 2, 2, 2, 0, 0, 0), (4, 4, 1, 1, 1, 0, 0), (4, 3, 2, 1, 1, 0, 0), (5, 3, 3 * half, 3 * half, 0, 0, 0)),
        ]:
            for mine, theirs in ((one, other), (other, one)):
                self.assertEqual(meet(pairs(*mine), pairs(*theirs)), pairs(*low), (mine, theirs))
                self.assertEqual(join(pairs(*mine), pairs(*theirs)), pairs(*high), (mine, theirs))

    def test_unlike_sums(self):
        for function in (meet, join):
            self.refused(Unlike, (3, 1), function, pairs(1, 1), pairs(2, 1))
            self.refused(Unlike, pair(Fraction(1, LONGER)), function, pairs(0), pairs(Fraction(1, LONGER)))
            self.refused(Unlike, 3, function, pairs(1, 1), pairs(2, 1, 1))


class Refusals(Case, unittest.TestCase):
    def test_amounts(self):
        for function, further in [
            (is_more_even, ()), (first_gap, ()), (exchanges, ()), (fewest, ()), (fewest_exchanges, ()),
            (exchanges_hold, (3, None)), (meet, ()), (join, ()),
        ]:
            for value in NO_AMOUNTS:
                with self.subTest(function=function.__name__, value=value):
                    self.refused(InvalidFill, value, function, value, None, *further)
                    self.refused(InvalidFill, value, function, pairs(1, 1), value, *further)
            self.refused(Unlike, 3, function, pairs(1, 1), pairs(1, 1, 0), *further)
            self.refused(Unlike, 1, function, pairs(1, 1), pairs(2), *further)


if __name__ == "__main__":
    unittest.main()
