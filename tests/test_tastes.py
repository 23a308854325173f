import time
import unittest
from itertools import combinations

from caskyears.errors import BadGlasses, BadTold, InvalidNumber
from caskyears.tastes import alike_pair, answers, fewest_glasses, fewest_in_turn, finds, fitting, some_glasses
from caskyears.tastes import turn_tree
from tests.helper import ECHO, NONE_OF_ANY, ODD, Case, drawing

NO_GLASS = NONE_OF_ANY + [(), [0], (1, 0), (0, 0), (-1,), (-1, 0), (True,), (0, True), ("0",), (0, None), ((0,),),
    (0, [1]), {0: 1},
    (ECHO,), (0, ODD), (0, 1, 1)]
NO_SETS = [value for value in NO_GLASS if value != ()] + [[]]
NO_TRUTHS = NONE_OF_ANY + [(), (True,), (True, False, True), [True, False], (1, 0), (True, 0), (True, None),
    (True, ECHO), ((True, False),)]


def sets(number, most):
    """Return all sets of at most so many casks."""
    return [chosen for many in range(most + 1) for chosen in combinations(range(number), many)]


def is_bad(glass, spoilt, faint):
    """Return whether a glass is bad."""
    many = sum(cask in spoilt for cask in glass)
    return many >= 1 if faint is None else many * faint >= len(glass)


def told_by(glasses, spoilt, faint):
    """Return the answers of glasses."""
    return tuple(is_bad(glass, spoilt, faint) for glass in glasses)


def all_unlike(number, most, glasses, faint):
    """Return whether all sets have unlike answers."""
    found = [told_by(glasses, spoilt, faint) for spoilt in sets(number, most)]
    return len(set(found)) == len(found)


def fewest_by_hand(number, most, faint):
    """Return the least number of glasses that find, by going through all of them."""
    every = sets(number, number)[1:]
    for many in range(number + 1):
        if any(all_unlike(number, most, chosen, faint) for chosen in combinations(every, many)):
            return many
    return None


def depth_by_hand(fit, every, faint, known):
    """Return the least depth of a tree of glasses, by going through all of them."""
    if len(fit) == 1:
        return 0
    if fit not in known:
        depths = []
        for glass in every:
            bad = frozenset(spoilt for spoilt in fit if is_bad(glass, spoilt, faint))
            if bad and bad != fit:
                depths.append(1 + max(depth_by_hand(bad, every, faint, known),
                    depth_by_hand(fit - bad, every, faint, known)))
        known[fit] = min(depths)
    return known[fit]


def walk(tree, fit, faint):
    """Return the list of the leaves with what reaches them, and the depth, of a tree of glasses."""
    if tree[0] == "are":
        return [(tree[1], fit)], 0
    word, glass, if_bad, if_good = tree
    assert word == "glass" and isinstance(glass, tuple) and glass
    one, depth = walk(if_bad, [spoilt for spoilt in fit if is_bad(glass, spoilt, faint)], faint)
    other, more = walk(if_good, [spoilt for spoilt in fit if not is_bad(glass, spoilt, faint)], faint)
    return one + other, 1 + max(depth, more)


class Tastes(Case, unittest.TestCase):
    def test_answers(self):
        draw = drawing(321)
        for _ in range(200):
            number, faint = draw.randrange(1, 9), draw.choice([None, 1, 2, 3, 9])
            glasses = tuple(draw.choice(sets(number, number)[1:]) for _ in range(draw.randrange(5)))
            spoilt = draw.choice(sets(number, number))
            self.assertEqual(answers(glasses, spoilt, faint), told_by(glasses, spoilt, faint))
        self.assertEqual(answers(faint=2, spoilt=(5, 10**50), glasses=((5, 6), (10**50, 10**50 + 1, 10**50 + 2), (7,))),
            (True, False, False))
        self.assertEqual(answers(((0, 1, 2, 3),), (0, 1), 2), (True,))
        self.assertEqual(answers(((0, 1, 2, 3),), (0,), 10**50), (True,))
        self.assertEqual(answers(((0, 1, 2, 3),), (), 10**50), (False,))
        self.assertEqual(answers(((0, 1),), (0,), 1), (False,))
        self.assertEqual(answers((), (), None), ())

    def test_finding(self):
        draw, seen = drawing(322), {True: 0, False: 0}
        for _ in range(250):
            number, faint = draw.randrange(1, 6), draw.choice([None, None, 1, 2, 7])
            most = draw.randrange(number + 1)
            glasses = tuple(draw.choice(sets(number, number)[1:]) for _ in range(draw.randrange(7)))
            wanted = all_unlike(number, most, glasses, faint)
            self.assertIs(finds(number, most, glasses, faint), wanted)
            seen[wanted] += 1
            found = alike_pair(number, most, glasses, faint)
            if wanted:
                self.assertIsNone(found)
            else:
                self.assertIsInstance(found, tuple)
                one, other = found
                self.assertNotEqual(one, other)
                self.assertTrue(one in sets(number, most) and other in sets(number, most))
                self.assertEqual(told_by(glasses, one, faint), told_by(glasses, other, faint))
            told = told_by(glasses, draw.choice(sets(number, number)), faint)
            self.assertEqual(fitting(number, most, glasses, faint, told),
                [spoilt for spoilt in sets(number, most) if told_by(glasses, spoilt, faint) == told])
        self.assertGreater(min(seen.values()), 40, seen)

    def test_casks_in_no_glass_and_no_glasses(self):
        self.assertIs(finds(faint=None, glasses=((0, 2), (1, 2)), most=1, number=3), True)
        self.assertIs(finds(3, 1, ((0,), (1,)), None), False)
        self.assertEqual(alike_pair(3, 1, ((0,), (1,)), None), ((), (2,)))
        self.assertIs(finds(1, 0, (), None), True)
        self.assertIs(finds(1, 1, (), None), False)
        self.assertEqual(alike_pair(faint=None, glasses=(), most=1, number=1), ((), (0,)))
        self.assertEqual(fitting(told=(), faint=3, glasses=(), most=2, number=2), [(), (0,), (1,), (0, 1)])
        self.assertEqual(fitting(8, 0, ((0,),), None, (True,)), [])
        self.assertEqual(fitting(8, 1, ((0, 7),), None, (True,)), [(0,), (7,)])
        self.assertEqual(fitting(8, 8, tuple((cask,) for cask in range(8)), 5, (True,) * 8), [tuple(range(8))])
        self.all_new(fitting, 3, 3, ((0, 1),), None, (True,))

    def test_fewest_glasses(self):
        for number in range(1, 5):
            for most in range(number + 1):
                for faint in (None, 1, 2, 3, 9):
                    with self.subTest(number=number, most=most, faint=faint):
                        wanted = fewest_by_hand(number, most, faint)
                        self.assertEqual(fewest_glasses(number, most, faint), wanted)
                        found = some_glasses(number, most, faint)
                        self.assertIsInstance(found, tuple)
                        self.assertEqual(len(found), wanted)
                        self.assertTrue(all_unlike(number, most, found, faint))
                        self.assertIs(finds(number, most, found, faint), True)

    def test_trees(self):
        for number in range(1, 5):
            every = sets(number, number)[1:]
            for most in range(number + 1):
                for faint in (None, 1, 2, 3, 9):
                    with self.subTest(number=number, most=most, faint=faint):
                        wanted = depth_by_hand(frozenset(sets(number, most)), every, faint, {})
                        self.check_tree(number, most, faint, wanted)

    def check_tree(self, number, most, faint, wanted):
        """Check the depth that is told, and a tree of this depth."""
        self.assertEqual(fewest_in_turn(number, most, faint), wanted)
        found, depth = walk(turn_tree(number, most, faint), sets(number, most), faint)
        self.assertEqual(depth, wanted)
        self.assertEqual(sorted(spoilt for spoilt, _ in found), sorted(sets(number, most)))
        for spoilt, reached in found:
            self.assertEqual(reached, [spoilt])

    def test_five_casks(self):
        started = time.monotonic()
        for most in range(6):
            for faint in (None, 1, 2, 3, 5, 6):
                fewest = fewest_glasses(number=5, most=most, faint=faint)
                found = some_glasses(number=5, most=most, faint=faint)
                self.assertEqual(len(found), fewest)
                self.assertTrue(all_unlike(5, most, found, faint))
                depth = fewest_in_turn(number=5, most=most, faint=faint)
                self.assertLessEqual(depth, fewest)
                self.check_tree(5, most, faint, depth)
                every = sets(5, 5)[1:]
                if fewest and len(sets(5, most)) <= 2 ** (fewest - 1):
                    self.assertFalse(any(all_unlike(5, most, chosen, faint)
                        for chosen in combinations(every, fewest - 1)))
        self.assertEqual(turn_tree(faint=None, most=0, number=5), ("are", ()))
        self.assertEqual(some_glasses(5, 0, None), ())
        self.assertLess(time.monotonic() - started, 60)

    def test_one_spoilt_and_glasses_of_one(self):
        for number in range(1, 6):
            least = next(many for many in range(9) if 2**many > number)
            self.assertEqual(fewest_glasses(number, 1, None), least)
        for number in range(1, 9):
            for most in range(number + 1):
                for faint in (None, 1, 5):
                    self.assertIs(finds(number, most, tuple((cask,) for cask in range(number)), faint), True)
        self.assertIs(finds(8, 8, tuple(sets(8, 8)[1:]), 3), True)


class Refusals(Case, unittest.TestCase):
    CALLS = [(finds, ((0,),)), (alike_pair, ((0,),)), (fitting, ((0,), None)), (fewest_glasses, ()), (some_glasses, ()),
        (fewest_in_turn, ()), (turn_tree, ())]

    def passed(self, function, number, most, glasses, faint):
        """Return what a function takes of these."""
        if function in (finds, alike_pair):
            return number, most, glasses, faint
        return (number, most, glasses, faint, (False,)) if function is fitting else (number, most, faint)

    def test_numbers(self):
        for function, _ in self.CALLS:
            for number in (0, -1, 9, 10**50):
                self.refused(InvalidNumber, number, function, *self.passed(function, number, -7, None, -8))
            for most in (-1, 4, 10**50):
                self.refused(InvalidNumber, most, function, *self.passed(function, 3, most, None, -8))
            for faint in (0, -1, -(10**50)):
                self.refused(InvalidNumber, faint, function, *self.passed(function, 3, 3, ((0,),), faint))
        self.refused(InvalidNumber, 0, answers, (), (), 0)
        self.refused(InvalidNumber, 0, fitting, 3, 3, ((0,),), 0, None)

    def test_glasses(self):
        for value in NO_GLASS:
            for entry in ((value,), ((0,), value), value, [value]):
                if isinstance(entry, tuple) and (entry == () or all(self.is_glass(inner) for inner in entry)):
                    continue
                with self.subTest(value=entry):
                    self.refused(BadGlasses, entry, answers, entry, None, 0)
                    for function in (finds, alike_pair, fitting):
                        self.refused(BadGlasses, entry, function, *self.passed(function, 3, 3, entry, 0))
        for function in (finds, alike_pair, fitting):
            self.refused(BadGlasses, ((0, 3),), function, *self.passed(function, 3, 3, ((0, 3),), None))

    def is_glass(self, value):
        """Return whether a value is a glass."""
        return isinstance(value, tuple) and value != () and all(type(cask) is int and 0 <= cask for cask in value) \
            and list(value) == sorted(set(value))

    def test_told(self):
        for value in NO_SETS:
            with self.subTest(value=value):
                if not self.is_glass(value):
                    self.refused(BadTold, value, answers, ((0,),), value, 0)
        for value in NO_TRUTHS:
            with self.subTest(value=value):
                self.refused(BadTold, value, fitting, 3, 3, ((0,), (1, 2)), None, value)


if __name__ == "__main__":
    unittest.main()
