import unittest
from itertools import product as choices
from math import gcd

from caskyears.errors import BadPours, BadSizes, BadStand, InvalidNumber
from caskyears.measures import fewest, fewest_for_all, measurable, measured, shut, shut_holds, stands
from tests.helper import ECHO, NONE_OF_ANY, ODD, Case

# The last one of any, (1, 2, 3, 4), is sizes.
NO_SIZES = NONE_OF_ANY[:-1] + [
    (), [3, 5], (0,), (3, -1), (3, 5, 7, 9, 2), (True,), (3, True), (3, None), ((3, 1),), ("3",), (3, [5]), {3: 5},
    "35",
    (ODD,), (ECHO,), 8, (3, 5, 0),
]
NO_STANDS = NONE_OF_ANY + [
    (), [0, 0], (0,), (0, 0, 0), (4, 0), (0, 6), (-1, 0), (True, 0), (0, False), (0, None), ((0, 1), (0, 1)), "00",
    (0, "0"), {0: 0}, (ODD, 0), (0, [0]),
]
NO_DEEDS = NONE_OF_ANY + [
    (), ("fill",), ("fill", 2), ("fill", -1), ("fill", 0, 1), ("fill", True), ("fill", None), ["fill", 0], ("empty", 2),
    ("empty",), ("empty", 0, 1), ("pour", 0), ("pour", 0, 0), ("pour", 0, 2), ("pour", -1, 0), ("pour", 0, 1, 1),
    ("pour", 0, True), ("pour", False, 1), ("Fill", 0), (b"fill", 0), (None, 0), (ECHO, 0), (ECHO, 0, 1), ("fill",
    (0,)),
    ("pour", 0, [1]), "fill", {"fill": 0}, ("drain", 0), (0, "fill"), ("till", 0, 1), ("move", 0, 1, (1, 2)),
]
CASES = [(1,), (5,), (3, 5), (2, 4), (4, 6), (3, 3), (1, 7), (6, 10, 15), (2, 3, 4), (4, 4, 4), (3, 5, 8), (1, 2, 3, 4),
    (2, 4, 6, 3), (5, 5, 1)]


def after(sizes, stand, deed):
    """Return the stand behind a deed, poured drop by drop."""
    held = list(stand)
    if deed[0] == "fill":
        held[deed[1]] = sizes[deed[1]]
    elif deed[0] == "empty":
        held[deed[1]] = 0
    else:
        while held[deed[1]] and held[deed[2]] < sizes[deed[2]]:
            held[deed[1]] -= 1
            held[deed[2]] += 1
    return tuple(held)


def all_deeds(sizes, butt):
    """Return the list of all deeds."""
    vessels = range(len(sizes))
    found = [("pour", one, other) for one in vessels for other in vessels if one != other]
    return found + [(word, at) for word in ("fill", "empty") for at in vessels if butt]


def counts(sizes, stand, butt):
    """Return a dict of how many deeds each stand needs that deeds lead to."""
    found, line = {stand: 0}, [stand]
    for here in line:
        for deed in all_deeds(sizes, butt):
            there = after(sizes, here, deed)
            if there not in found:
                found[there] = found[here] + 1
                line.append(there)
    return found


class Deeds(Case, unittest.TestCase):
    def test_measured(self):
        for sizes in CASES:
            for stand in list(choices(*[range(size + 1) for size in sizes]))[:40]:
                here, deeds = stand, []
                for deed in all_deeds(sizes, True):
                    self.assertEqual(measured(sizes, stand, (deed,)), after(sizes, stand, deed))
                    here = after(sizes, here, deed)
                    deeds.append(deed)
                    self.assertEqual(measured(sizes, stand, tuple(deeds)), here)
        self.assertEqual(measured((3, 5), (1, 2), ()), (1, 2))
        self.assertEqual(measured(deeds=(("pour", 1, 0),), stand=(1, 1), sizes=(3, 5)), (2, 0))
        self.assertEqual(measured((10**30, 10**30), (10**30, 5), (("pour", 0, 1),)), (5, 10**30))

    def test_stands(self):
        for sizes in CASES:
            for butt in (True, False):
                first_full = (sizes[0],) + (0,) * (len(sizes) - 1)
                for stand in [(0,) * len(sizes), sizes, tuple(size // 2 for size in sizes), first_full]:
                    found = self.all_new(stands, sizes, stand, butt)
                    self.assertEqual(found, sorted(counts(sizes, stand, butt)))
                    if not butt:
                        self.assertEqual({sum(entry) for entry in found}, {sum(stand)})
                        for entry in found:
                            full = any(much in (0, size) for much, size in zip(entry, sizes))
                            self.assertTrue(entry == stand or full)
        self.assertEqual(stands(butt=False, stand=(0, 4), sizes=(2, 4)), [(0, 4), (2, 2)])
        self.assertEqual(stands((5,), (3,), False), [(3,)])
        self.assertEqual(stands((5,), (3,), True), [(0,), (3,), (5,)])


class Goals(Case, unittest.TestCase):
    def test_fewest_and_shut(self):
        reached = 0
        for sizes in CASES:
            for butt in (True, False):
                for stand in [(0,) * len(sizes), sizes, tuple(size // 2 for size in sizes)]:
                    needed = counts(sizes, stand, butt)
                    for goal in range(max(sizes) + 2):
                        there = [many for entry, many in needed.items() if goal in entry]
                        reached += bool(there)
                        self.check(sizes, stand, goal, butt, min(there, default=None))
        self.assertGreater(reached, 200)

    def check(self, sizes, stand, goal, butt, wanted):
        """Check the fewest deeds, or the stands that no deed leaves."""
        found, closed = fewest(sizes, stand, goal, butt), shut(sizes, stand, goal, butt)
        self.assertEqual([found is None, closed is None], [wanted is None, wanted is not None])
        if found is not None:
            self.assertIs(type(found), tuple)
            self.assertEqual(len(found), wanted)
            self.assertTrue(set(found) <= set(all_deeds(sizes, butt)))
            self.assertIn(goal, measured(sizes, stand, found))
        else:
            self.assertTrue(self.is_shut(sizes, stand, goal, butt, closed))
            self.assertIs(shut_holds(sizes, stand, goal, butt, closed), True)

    def is_shut(self, sizes, stand, goal, butt, value):
        """Return whether a list of stands is one that no deed leaves."""
        inside = {after(sizes, entry, deed) for entry in value for deed in all_deeds(sizes, butt)}
        return sorted(set(value)) == value and stand in value and inside <= set(value) and not any(
            goal in entry for entry in value)

    def test_edges(self):
        self.assertEqual(fewest(sizes=(3, 5), stand=(0, 4), goal=4, butt=False), ())
        self.assertIsNone(fewest((3, 5), (0, 0), 10**30, True))
        self.assertEqual(fewest((3, 5), (0, 0), 0, False), ())
        self.assertIsNone(fewest((5,), (3,), 4, True))
        self.assertEqual(shut(butt=False, goal=3, stand=(0, 4), sizes=(2, 4)), [(0, 4), (2, 2)])
        self.assertIsNone(shut((3, 5), (0, 0), 4, True))
        self.assertEqual(self.all_new(shut, (2, 4), (0, 4), 3, False), [(0, 4), (2, 2)])

    def test_what_is_not_shut(self):
        case = (2, 4), (0, 4), 3, False
        self.assertIs(shut_holds(*case, [(0, 4), (2, 2)]), True)
        self.assertIs(shut_holds(*case, [(0, 2), (0, 4), (2, 0), (2, 2)]), True, "more than need be")
        for value in NONE_OF_ANY + [
            [], ((0, 4), (2, 2)), [(0, 4)], [(2, 2), (0, 4)], [(2, 2)], [(0, 4), (0, 4), (2, 2)], [[0, 4], [2, 2]],
            [(0, 4), (2, 2), (3, 1)], [(0, 4), (2, 2), None], [(0, 4), (2, 2), (2, 5)], [(0, 2), (2, 0)], [(0, 4),
            (2,)],
            [(0, 4), (2, 2), (2, 3)], [(False, 4), (2, 2)], [ODD, (0, 4), (2, 2)], {(0, 4): 1, (2, 2): 1},
            [(0, 2), (0, 4), (2, 2)], [(0, 3), (0, 4), (2, 1), (2, 2)],
        ]:
            self.assertIs(shut_holds(*case, value), False, value)
        self.assertIs(shut_holds((2, 4), (0, 4), 3, True, [(0, 4), (2, 2)]), False)
        self.assertIs(shut_holds((2, 4), (0, 4), 2, False, [(0, 4), (2, 2)]), False)
        even = [(one, other) for one in (0, 2) for other in (0, 2, 4)]
        self.assertIs(shut_holds((2, 4), (0, 4), 3, True, even), True)
        self.assertIs(shut_holds(value=even, butt=True, goal=1, stand=(2, 2), sizes=(2, 4)), True)


class All(Case, unittest.TestCase):
    def test_measurable(self):
        for sizes in CASES + [(7, 11), (12, 18), (9, 6, 12), (8,), (10, 11, 11, 11), (6, 4, 10, 8)]:
            needed = counts(sizes, (0,) * len(sizes), True)
            goals = {}
            for stand, many in needed.items():
                for much in stand:
                    goals[much] = min(goals.get(much, many), many)
            self.assertEqual(self.all_new(measurable, sizes), sorted(goals))
            self.assertEqual(fewest_for_all(sizes), max(goals.values()))
            step = gcd(*sizes)
            wanted = [0, sizes[0]] if len(sizes) == 1 else list(range(0, max(sizes) + 1, step))
            self.assertEqual(measurable(sizes), wanted)
        self.assertEqual([measurable(sizes=(1,)), fewest_for_all(sizes=(1,))], [[0, 1], 1])
        self.assertEqual(fewest_for_all((3, 5)), max(len(fewest((3, 5), (0, 0), goal, True)) for goal in range(6)))

    def test_large_vessels(self):
        self.assertEqual(measurable((139, 141)), list(range(142)))
        self.assertEqual(len(stands((19999,), (5,), True)), 3)
        self.assertEqual(len(stands((26, 25, 27), (1, 0, 0), True)), len(counts((26, 25, 27), (1, 0, 0), True)))


class Refusals(Case, unittest.TestCase):
    def test_sizes(self):
        for value in NO_SIZES:
            with self.subTest(value=value):
                self.refused(BadSizes, value, measured, value, None, None)
                self.refused(BadSizes, value, stands, value, None, True)
                self.refused(BadSizes, value, fewest, value, None, -1, True)
                self.refused(BadSizes, value, shut, value, None, -1, True)
                self.refused(BadSizes, value, shut_holds, value, None, -1, True, None)
                self.refused(BadSizes, value, measurable, value)
                self.refused(BadSizes, value, fewest_for_all, value)

    def test_stands(self):
        for value in NO_STANDS:
            with self.subTest(value=value):
                self.refused(BadStand, value, measured, (3, 5), value, None)
                self.refused(BadStand, value, stands, (3, 5), value, True)
                self.refused(BadStand, value, fewest, (3, 5), value, -1, True)
                self.refused(BadStand, value, shut, (3, 5), value, -1, True)
                self.refused(BadStand, value, shut_holds, (3, 5), value, -1, True, None)

    def test_goals_and_deeds(self):
        for below in (-1, -(10**40)):
            self.refused(InvalidNumber, below, fewest, (3, 5), (0, 0), below, True)
            self.refused(InvalidNumber, below, shut, (3, 5), (0, 0), below, False)
            self.refused(InvalidNumber, below, shut_holds, (3, 5), (0, 0), below, True, None)
        for value in NO_DEEDS:
            with self.subTest(value=value):
                self.refused(BadPours, 0, measured, (3, 5), (0, 0), (value,))
                self.refused(BadPours, 2, measured, (3, 5), (0, 0), (("fill", 0), ("pour", 0, 1), value, None))
        for value in NONE_OF_ANY + [[], [("fill", 0)], "ab"]:
            self.refused(BadPours, 0 if isinstance(value, tuple) else value, measured, (3, 5), (0, 0), value)


if __name__ == "__main__":
    unittest.main()
