import time
import unittest
from itertools import combinations, permutations

from caskyears.errors import BadCask, BadSides
from caskyears.racks import least_ahead, order, order_holds, orders, some_ahead, stuck, stuck_holds, takeable
from tests.helper import ECHO, NONE_OF_ANY, ODD, Case, drawing

SIDES = (((),), ((0,), (2,)), ((1, 3),), ((2,),), ((0, 1),))
NO_SIDES_INSIDE = NONE_OF_ANY + [
    (), [()], ([],), (None,), ((0,),), ((1, 0),), ((1, 1),), ((3,),), ((-1,),), ((True,),), ((1, True),), (("1",),),
    (1,), ((1,), None),
    ((1,), [2]), {0: ()}, ((10**50,),), ((ECHO,),), ((1, ODD),), (((1,),),), ((2, 1),), ((1,), (0, 1)),
]
NO_LISTS = NONE_OF_ANY + [(0, 1), [True], [0, "1"], [0, None], [0, -1], [0, 5], [0, 10**50], [[0]], [0, ECHO], [ODD],
    [(0,)], {0: 1}]


def is_free(sides, barrel, out):
    """Return whether a barrel can be taken out."""
    return any(set(side) <= set(out) for side in sides[barrel])


def holds(sides, barrels):
    """Return whether each of a list can be taken in its turn."""
    return len(set(barrels)) == len(barrels) and all(is_free(sides, entry, barrels[:at]) for at,
        entry in enumerate(barrels))


def all_lists(sides):
    """Return all lists of unlike barrels, each taken in its turn."""
    return [list(chosen) for many in range(len(sides) + 1) for chosen in permutations(range(len(sides)), many)
        if holds(sides, list(chosen))]


def some_sides(draw, many):
    """Return sides of so many barrels, some of which can never be taken."""
    sides = []
    for barrel in range(many):
        others = [other for other in range(many) if other != barrel]
        entry = []
        for _ in range(draw.randrange(1, 4)):
            entry.append(tuple(sorted(draw.sample(others, min(len(others), draw.choice([0, 1, 1, 2, 2, 3]))))))
        sides.append(tuple(entry))
    return tuple(sides)


class Racks(Case, unittest.TestCase):
    def test_all_lists(self):
        draw, seen = drawing(341), {"stuck": 0, "taken": 0, "far": 0}
        for at in range(120):
            many = 1 + at % 5
            sides = some_sides(draw, many)
            lists = all_lists(sides)
            longest = max(map(len, lists))
            whole = [entry for entry in lists if len(entry) == longest]
            ever = sorted(whole[0])
            # Whoever goes on as long as something can be taken ends with the same barrels out.
            self.assertEqual({tuple(sorted(entry)) for entry in lists if not any(is_free(sides, other, entry)
                for other in set(range(many)) - set(entry))}, {tuple(ever)})
            self.assertEqual(takeable(sides), ever)
            self.assertIn(order(sides), whole)
            self.assertEqual(orders(sides), len(whole))
            for barrel in range(many):
                ahead = [entry[:-1] for entry in lists if entry and entry[-1] == barrel]
                self.check_barrel(sides, barrel, ahead, [other for other in range(many) if other not in ever])
                seen["taken" if ahead else "stuck"] += 1
                seen["far"] += len(min(ahead, key=len, default=[])) > 1
            for count in range(many + 1):
                for chosen in permutations(range(many), count):
                    self.assertIs(order_holds(sides, list(chosen)), list(chosen) in lists)
        self.assertGreater(min(seen.values()), 10, seen)

    def check_barrel(self, sides, barrel, ahead, never):
        """Check what is told of one barrel, with all lists that lead to it."""
        if not ahead:
            self.assertIsNone(least_ahead(sides, barrel))
            self.assertIsNone(some_ahead(sides, barrel))
            found = stuck(sides, barrel)
            self.assertTrue(barrel in found and found == sorted(set(found)) and set(found) <= set(never))
            self.assertIs(stuck_holds(sides, barrel, found), True)
        else:
            self.assertIsNone(stuck(sides, barrel))
            least = min(map(len, ahead))
            self.assertEqual(least_ahead(sides, barrel), least)
            self.assertIn(some_ahead(sides, barrel), [sorted(entry) for entry in ahead if len(entry) == least])
        for many in range(len(sides) + 1):
            for chosen in combinations(range(len(sides)), many):
                wanted = barrel in chosen and all(set(side) & set(chosen) for other in chosen for side in sides[other])
                self.assertIs(stuck_holds(sides, barrel, list(chosen)), wanted)

    def test_told_sides(self):
        self.assertEqual(takeable(sides=SIDES), [0, 1, 4])
        self.assertEqual(order(sides=SIDES), [0, 1, 4])
        self.assertEqual(orders(sides=SIDES), 1)
        self.assertEqual(stuck(barrel=2, sides=SIDES), [2, 3])
        self.assertIsNone(stuck(SIDES, 4))
        self.assertEqual([least_ahead(barrel=barrel, sides=SIDES) for barrel in range(5)], [0, 1, None, None, 2])
        self.assertEqual([some_ahead(barrel=barrel, sides=SIDES) for barrel in range(5)], [[], [0], None, None, [0, 1]])
        self.assertIs(stuck_holds(value=[2, 3], barrel=3, sides=SIDES), True)
        self.assertIs(order_holds(value=[0, 1], sides=SIDES), True)
        self.assertEqual([takeable(()), order(()), orders(()), order_holds((), [])], [[], [], 1, True])
        self.assertEqual([takeable((((),),)), orders((((),),)), least_ahead((((),),), 0)], [[0], 1, 0])
        alone = (((1,),), ((0,),))
        self.assertEqual([takeable(alone), order(alone), orders(alone), stuck(alone, 0)], [[], [], 1, [0, 1]])
        for function, more in ((takeable, ()), (order, ()), (stuck, (2,)), (some_ahead, (4,))):
            self.all_new(function, SIDES, *more)

    def test_any_object(self):
        for value in NO_LISTS:
            with self.subTest(value=value):
                self.assertIs(order_holds(SIDES, value), False)
                self.assertIs(stuck_holds(SIDES, 2, value), False)
        for value in ([0, 0], [0, 1, 0], [1], [1, 0], [0, 2], [4, 0, 1]):
            self.assertIs(order_holds(SIDES, value), False)
        for value in ([3, 2], [2, 2, 3], [2], [3], [], [0, 2, 3], [2, 3, 3]):
            self.assertIs(stuck_holds(SIDES, 2, value), False)
        self.assertIs(order_holds(SIDES, []), True)

    def test_at_the_limits(self):
        started = time.monotonic()
        free = (((),),) * 12
        self.assertEqual(orders(free), 479001600)
        self.assertEqual(least_ahead(free, 11), 0)
        chain = tuple(((at - 1,),) if at else ((),) for at in range(12))
        self.assertEqual([orders(chain), least_ahead(chain, 11), some_ahead(chain, 11)], [1, 11, list(range(11))])
        # Six of the other barrels, whichever, let the last one out.
        heap = (((),),) * 11 + (tuple(combinations(range(11), 6)),)
        self.assertEqual(least_ahead(heap, 11), 6)
        self.assertEqual(orders(heap), 39916800 * 6)
        draw = drawing(342)
        for _ in range(20):
            sides = some_sides(draw, 12)
            self.assertTrue(holds(sides, order(sides)))
            for barrel in range(12):
                if least_ahead(sides, barrel) is None:
                    self.assertIs(stuck_holds(sides, barrel, stuck(sides, barrel)), True)
                else:
                    self.assertTrue(is_free(sides, barrel, some_ahead(sides, barrel)))
        self.assertLess(time.monotonic() - started, 60)


class Refusals(Case, unittest.TestCase):
    CALLS = [(takeable, ()), (order, ()), (orders, ()), (stuck, (None,)), (stuck_holds, (None, None)),
        (order_holds, (None,)),
        (least_ahead, (None,)), (some_ahead, (None,))]

    def test_wrong_inputs(self):
        for function, more in self.CALLS:
            for value in NO_SIDES_INSIDE:
                with self.subTest(value=value):
                    sides = (value, ((),), ((0,),))
                    self.refused(BadSides, sides, function, sides, *more)
            sides = SIDES + (((0, 5),),)
            self.refused(BadSides, sides, function, sides, *more)
            for value in NONE_OF_ANY + [[], list(SIDES), {0: ((),)}, (((),), None)]:
                self.refused(BadSides, value, function, value, *more)
        for function, more in self.CALLS:
            if more and function is not order_holds:
                for barrel in (-1, 5, 10**50, None, True, "0", [0], (0,)):
                    self.refused(BadCask, barrel, function, SIDES, barrel, *more[1:])


if __name__ == "__main__":
    unittest.main()
