import unittest
from fractions import Fraction
from itertools import combinations

from caskyears.errors import BadCask, BadSizes, BadTold, InvalidRecipe
from caskyears.glassback import blind_pair, fewest_evening, morning, morning_between, mornings
from tests.helper import ECHO, LONG, NONE_OF_ANY, ODD, Case, drawing, end_of_aim, fill, number, pair, pairs
from tests.helper import rank_by_rows, some_recipe
from tests.test_deeds import model, work
from tests.test_recipes import NO_RECIPES

HALF = (1, 2)
SIZES = pairs(2, 2)
RECIPE = (("move", 0, 1, HALF),)
GLASSES = ((1, (1, 3)),)
NO_SIZES = NONE_OF_ANY + [
    (), ((1, 1),) * 9, [(1, 1)], ((1, 1), None), ((1, 1), (-1, 2)), ((1, 1), (2, 4)), ((1, 1), 1), ((1, 1), [1, 2]),
    ((1, 1), (True, 1)),
    ((1, 1), ECHO), (1, 1), {0: (1, 1)},
]
NO_GLASSES = NONE_OF_ANY + [
    [], [(1, HALF)], (1, HALF), ([1, HALF],), ((1, HALF), None), ((1,),), ((1, HALF, HALF),), ((2, HALF),),
    ((-1, HALF),), ((True, HALF),),
    (("1", HALF),), ((None, HALF),), ((1, (3, 2)),), ((1, (-1, 2)),), ((1, (2, 4)),), ((1, 1),), ((1, [1, 2]),),
    ((1, None),),
    ((ECHO, HALF),), ((1, ECHO),), ((ODD, HALF),), {1: HALF},
]


def evening(sizes, recipe):
    """Return the list, for each cask behind the recipe, of how much is from each cask of the morning."""
    casks = model(tuple(fill(**{"abcdefgh"[at]: number(much)}) if much[0] else () for at, much in enumerate(sizes)))
    for deed in recipe:
        casks = work(casks, deed)[0]
    return [[inside.get(kind, Fraction(0)) for kind in "abcdefgh"[: len(sizes)]] for inside in casks]


def rows_by_hand(sizes, recipe, glasses):
    """Return the rows of all shares of the morning that fit, 0 in empty casks."""
    many = len(sizes)
    unit = [[Fraction(at == cask) for at in range(many)] for cask in range(many)]
    rows = [([-entry for entry in row], Fraction(0)) for row in unit]
    rows += [(row, Fraction(1 if sizes[at][0] else 0)) for at, row in enumerate(unit)]
    parts = evening(sizes, recipe)
    for cask, share in glasses:
        told = sum(parts[cask]) * number(share)
        rows += [(parts[cask], told), ([-entry for entry in parts[cask]], -told)]
    return rows


def tells(sizes, recipe, shares):
    """Return the shares in all glasses behind the recipe, None in empty casks."""
    found = []
    for parts in evening(sizes, recipe):
        whole = sum(parts)
        found.append(sum(x * number(y) for x, y in zip(parts, shares)) / whole if whole else None)
    return found


def are_shares(sizes, shares):
    """Return whether shares are some of a morning."""
    return isinstance(shares, tuple) and len(shares) == len(sizes) and all(0 <= number(share) <= (1 if size[0] else 0)
        for share, size in zip(shares, sizes))


def some_case(draw, casks):
    """Return sizes, a recipe, and glasses that some morning mostly tells."""
    sizes = pairs(*[draw.choice([0, 1, 2, Fraction(3, 2)]) for _ in range(casks)])
    recipe = some_recipe(draw, casks, draw.randrange(5))
    hidden = pairs(*[draw.choice([0, 1, Fraction(1, 2), Fraction(1, 3)]) if much[0] else 0 for much in sizes])
    glasses = []
    for cask, share in enumerate(tells(sizes, recipe, hidden)):
        if share is not None and draw.random() < 0.7:
            glasses.append((cask, pair(share if draw.random() < 0.6 else Fraction(draw.randrange(3), 2))))
    if glasses and draw.random() < 0.2:
        glasses.append((glasses[0][0], pair(Fraction(draw.randrange(3), 2))))
    draw.shuffle(glasses)
    return sizes, recipe, tuple(glasses)


class Mornings(Case, unittest.TestCase):
    def test_ends_by_taking_out_unknowns(self):
        draw, seen = drawing(431), {"none": 0, "one": 0, "many": 0}
        for at in range(200):
            casks = 1 + at % 3
            sizes, recipe, glasses = some_case(draw, casks)
            rows, ends = rows_by_hand(sizes, recipe, glasses), []
            for cask in range(casks):
                aim = [Fraction(place == cask) for place in range(casks)]
                most = end_of_aim(casks, rows, aim)
                ends.append(None if most == "none" else (-end_of_aim(casks, rows, [-entry for entry in aim]), most))
                told = None if ends[cask] is None else pairs(*ends[cask])
                self.assertEqual(morning_between(sizes, recipe, glasses, cask), told)
            found, some = mornings(sizes, recipe, glasses), morning(sizes, recipe, glasses)
            seen[found[0]] += 1
            if ends[0] is None:
                self.assertEqual([found, some], [("none",), None])
                continue
            self.assertTrue(are_shares(sizes, some))
            behind = tells(sizes, recipe, some)
            self.assertTrue(all(behind[cask] == number(share) for cask, share in glasses))
            fixed = [[Fraction(place == cask) for place in range(casks)] for cask, (least, most) in enumerate(ends)
                if least == most]
            parts = evening(sizes, recipe)
            rank = rank_by_rows(fixed + [parts[cask] for cask, _ in glasses]) if fixed or glasses else 0
            if rank == casks:
                self.assertEqual(found, ("one", pairs(*[least for least, _ in ends])))
            else:
                self.assertEqual(found, ("many", casks - rank))
        self.assertGreater(min(seen.values()), 20, seen)

    def test_what_all_glasses_tell(self):
        draw, seen = drawing(432), {True: 0, False: 0}
        for at in range(200):
            casks = 1 + at % 4
            sizes, recipe, _ = some_case(draw, casks)
            full = [cask for cask in range(casks) if sizes[cask][0]]
            parts = [[row[cask] for cask in full] for row in evening(sizes, recipe)]
            least = None if full else 0
            for many in range(1, casks + 1):
                if least is None and any(rank_by_rows(list(chosen)) == len(full)
                    for chosen in combinations(parts, many)):
                    least = many
            self.assertEqual(fewest_evening(sizes, recipe), least)
            found = blind_pair(sizes, recipe)
            seen[found is None] += 1
            if least is not None:
                self.assertIsNone(found)
                continue
            self.assertIsInstance(found, tuple)
            one, other = found
            self.assertNotEqual(one, other)
            self.assertTrue(are_shares(sizes, one) and are_shares(sizes, other))
            self.assertEqual(tells(sizes, recipe, one), tells(sizes, recipe, other))
        self.assertGreater(min(seen.values()), 30, seen)

    def test_edges(self):
        self.assertEqual(mornings(glasses=GLASSES, recipe=RECIPE, sizes=SIZES), ("many", 1))
        self.assertEqual(morning_between(cask=0, glasses=GLASSES, recipe=RECIPE, sizes=SIZES), pairs(0, 1))
        self.assertEqual(morning_between(SIZES, RECIPE, GLASSES, 1), pairs(0, Fraction(1, 2)))
        self.assertEqual(mornings(SIZES, RECIPE, GLASSES + ((0, (1, 3)),)),
            ("one", pairs(Fraction(1, 3), Fraction(1, 3))))
        self.assertEqual(morning(glasses=GLASSES + ((0, (1, 3)),), recipe=RECIPE, sizes=SIZES),
            pairs(Fraction(1, 3), Fraction(1, 3)))
        self.assertEqual(mornings(SIZES, RECIPE, GLASSES + ((1, HALF),)), ("none",))
        self.assertEqual(mornings(SIZES, (), ()), ("many", 2))
        self.assertIsNone(morning_between(SIZES, RECIPE, GLASSES + ((1, HALF),), 0))
        # Casks that are empty in the morning have the share 0, and count nothing.
        self.assertEqual(mornings(pairs(0, 3), (), ()), ("many", 1))
        self.assertEqual(mornings(pairs(0, 3), (), ((1, HALF),)), ("one", pairs(0, Fraction(1, 2))))
        self.assertEqual(morning_between(pairs(0, 3), (), (), 0), pairs(0, 0))
        self.assertIsNone(morning_between(pairs(0, 3), (), ((1, HALF), (1, (1, 1))), 0))
        self.assertEqual([mornings(pairs(0, 0), (), ()), morning(pairs(0, 0), RECIPE, ()), blind_pair(pairs(0, 0), ()),
            fewest_evening(pairs(0, 0), ())], [("one", pairs(0, 0)), pairs(0, 0), None, 0])
        self.assertEqual([fewest_evening(recipe=RECIPE, sizes=SIZES), blind_pair(recipe=RECIPE, sizes=SIZES)],
            [2, None])
        drained = (("move", 0, 1, (1, 1)),)
        self.assertIsNone(fewest_evening(SIZES, drained))
        self.assertEqual(fewest_evening(pairs(2, 0), drained), 1)
        self.assertEqual(fewest_evening(pairs(2, 0), RECIPE), 1)
        self.refused(BadTold, ((0, HALF),), mornings, SIZES, drained, ((0, HALF),))
        self.refused(BadTold, ((1, HALF), (0, HALF)), morning, SIZES, drained, ((1, HALF), (0, HALF)))
        self.refused(BadTold, ((0, (0, 1)),), morning_between, pairs(0, 1), (), ((0, (0, 1)),), 5)

    def test_at_the_limits(self):
        draw, far = drawing(433), 10**30
        sizes = pairs(*[Fraction(draw.randrange(1, far), draw.randrange(1, far)) for _ in range(8)])
        recipe = tuple(("move", *draw.sample(range(8), 2), pair(Fraction(draw.randrange(1, far), far + 7)))
            for _ in range(24))
        hidden = pairs(*[Fraction(draw.randrange(far), far + 57) for _ in range(8)])
        glasses = tuple((cask, pair(share)) for cask, share in enumerate(tells(sizes, recipe, hidden)))
        self.assertEqual(mornings(sizes, recipe, glasses), ("one", hidden))
        self.assertEqual(mornings(sizes, recipe, glasses[:3]), ("many", 5))
        self.assertEqual(fewest_evening(sizes, recipe), 8)
        self.assertIsNone(blind_pair(sizes, recipe))
        self.assertEqual(morning_between(sizes, recipe, glasses, 4), (hidden[4], hidden[4]))
        one, other = blind_pair(sizes, recipe + (("keep", 3, (0, 1)),))
        self.assertEqual(tells(sizes, recipe + (("keep", 3, (0, 1)),), one),
            tells(sizes, recipe + (("keep", 3, (0, 1)),), other))


class Refusals(Case, unittest.TestCase):
    CALLS = [(mornings, (None,)), (morning, (None,)), (morning_between, (None, None)), (blind_pair, ()),
        (fewest_evening, ())]

    def test_wrong_inputs(self):
        for function, more in self.CALLS:
            for value in NO_SIZES:
                with self.subTest(value=value):
                    self.refused(BadSizes, value, function, value, None, *more)
            for value in NO_RECIPES + [(("move", 0, 2, HALF),), (("draw", 10**50, HALF),), (("add", 0, ()),)]:
                with self.subTest(value=value):
                    self.refused(InvalidRecipe, value, function, SIZES, value, *more)
        for value in NO_GLASSES:
            with self.subTest(value=value):
                self.refused(BadTold, value, mornings, SIZES, RECIPE, value)
                self.refused(BadTold, value, morning, SIZES, RECIPE, value)
                self.refused(BadTold, value, morning_between, SIZES, RECIPE, value, None)
        for cask in (-1, 2, 10**50, None, True, "0", [0], (0,)):
            self.refused(BadCask, cask, morning_between, SIZES, RECIPE, GLASSES, cask)
        self.refused(BadSizes, (pair(LONG, 2), (2, 2)), mornings, (pair(LONG, 2), (2, 2)), RECIPE, GLASSES)


if __name__ == "__main__":
    unittest.main()
