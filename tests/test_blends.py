import unittest
from fractions import Fraction
from itertools import combinations

from caskyears.blends import blend_for, blended, fewest_casks, most_of, no_blend, no_blend_holds, unneeded
from caskyears.errors import BadSizes, InvalidCellar, InvalidFill
from tests.helper import ECHO, LONG, NONE_OF_ANY, ODD, Case, drawing, end_of_aim, fill, number, pair, pairs, some_cellar
from tests.test_fills import NO_CELLARS, NO_FILLS

HALF_OF = Fraction(10**29 + 1, 2 * 10**29)
CELLAR = (fill(red=4), fill(red=1, white=1), ())
NO_BLENDS = NONE_OF_ANY + [
    (), pairs(1, 1), pairs(1, 1, 0, 0), list(pairs(1, 1, 0)), pairs(5, 0, 0), pairs(0, 0, Fraction(1, LONG)),
    pairs(-1, 0, 0),
    ((1, 1), (2, 2), (0, 1)), ((1, 1), 1, (0, 1)), ((1, 1), None, (0, 1)), ((1, 1), [1, 1], (0, 1)),
    ((1, 1), ECHO, (0, 1)),
    ((1, 1), (True, 1), (0, 1)), (ODD,) * 3,
]
NO_SHARES = NO_FILLS + [
    (), fill(red=2), fill(red=Fraction(1, 2)), fill(red=1, white=1),
    fill(red=Fraction(1, 2), white=Fraction(1, 2) - Fraction(1, LONG)),
    fill(red=Fraction(1, 2), white=Fraction(1, 2) + Fraction(1, LONG)),
]


def amounts(inside):
    """Return a dict of the amounts of a fill."""
    return {kind: number(much) for kind, much in inside}


def rows_for(cellar, wanted, kinds):
    """Return the rows of the shares of the casks that are taken, such that they make the wanted amounts."""
    many = len(cellar)
    unit = [[Fraction(at == cask) for at in range(many)] for cask in range(many)]
    rows = [([-entry for entry in row], Fraction(0)) for row in unit] + [(row, Fraction(1)) for row in unit]
    for kind in kinds:
        row = [amounts(inside).get(kind, Fraction(0)) for inside in cellar]
        rows += [(row, wanted.get(kind, Fraction(0))), ([-entry for entry in row], -wanted.get(kind, Fraction(0)))]
    return rows


def can(cellar, wanted, kinds):
    """Return whether casks make the wanted amounts."""
    return end_of_aim(len(cellar), rows_for(cellar, wanted, kinds), [Fraction(0)] * len(cellar)) != "none"


def all_kinds(*fills):
    """Return the ascending list of the kinds of fills."""
    return sorted({kind for inside in fills for kind, _ in inside})


def some_fill(draw, cellar):
    """Return a fill, sometimes one that is blended of the cellar."""
    if draw.random() < 0.6:
        mixed = {}
        for inside in cellar:
            share = draw.choice([Fraction(0), Fraction(0), Fraction(1, 2), Fraction(1)])
            for kind, much in inside:
                mixed[kind] = mixed.get(kind, Fraction(0)) + number(much) * share
        return fill(**{kind: much for kind, much in mixed.items() if much})
    return some_cellar(draw, 1, kinds=["a", "b", draw.choice(["b", "z"])])[0]


def refuses(cellar, wanted, kinds, value):
    """Return whether prices show that there is no blend, each condition by itself."""
    prices, limits = {kind: number(price) for kind, price in value[0]}, [number(price) for price in value[1]]
    if list(prices) != kinds or min(limits) < 0:
        return False
    shown = Fraction(0)
    for inside, limit in zip(cellar, limits):
        whole = sum(amounts(inside).values(), Fraction(0))
        if whole and sum(much / whole * prices[kind] for kind, much in amounts(inside).items()) > limit:
            return False
        shown += whole * limit
    return sum(much * prices[kind] for kind, much in wanted.items()) > shown


class Blends(Case, unittest.TestCase):
    def test_blends_or_prices(self):
        draw, seen = drawing(441), {True: 0, False: 0}
        for at in range(200):
            cellar = some_cellar(draw, 1 + at % 4, kinds=["a", "b"])
            goal = some_fill(draw, cellar)
            kinds, wanted = all_kinds(*cellar, goal), amounts(goal)
            found, paper = blend_for(cellar, goal), no_blend(cellar, goal)
            there = can(cellar, wanted, kinds)
            self.assertEqual([found is not None, paper is None], [there, there])
            seen[there] += 1
            least = [chosen for many in range(len(cellar) + 1) for chosen in combinations(range(len(cellar)), many)
                if there and can([cellar[cask] for cask in chosen], wanted, kinds)] if there else [None]
            self.assertEqual(fewest_casks(cellar, goal), least[0])
            if there:
                self.assertTrue(all(0 <= number(much) <= sum(amounts(inside).values()) for much,
                    inside in zip(found, cellar)))
                self.assertEqual(blended(cellar, found), goal)
                self.assertIs(no_blend_holds(cellar, goal, (tuple((kind, (1, 1)) for kind in kinds), ((1, 1),
                    ) * len(cellar))), False)
                continue
            self.assertTrue(refuses(cellar, wanted, kinds, paper))
            self.assertIs(no_blend_holds(cellar, goal, paper), True)
            for _ in range(4):
                prices, limits = list(paper[0]), list(paper[1])
                place = draw.randrange(len(prices))
                prices[place] = (prices[place][0], pair(number(prices[place][1]) + draw.choice([0, 1, -1])))
                limits[0] = pair(number(limits[0]) + draw.choice([0, 1, -1, Fraction(1, 2)]))
                value = (tuple(prices), tuple(limits))
                self.assertIs(no_blend_holds(cellar, goal, value), refuses(cellar, wanted, kinds, value))
        self.assertGreater(min(seen.values()), 40, seen)

    def test_blended(self):
        self.assertEqual(blended(blend=pairs(1, 1, 0), cellar=CELLAR), fill(red=Fraction(3, 2), white=Fraction(1, 2)))
        self.assertEqual(blended(CELLAR, pairs(0, 0, 0)), ())
        self.assertEqual(blended(CELLAR, pairs(4, 2, 0)), fill(red=5, white=1))
        draw = drawing(442)
        for at in range(80):
            cellar = some_cellar(draw, 1 + at % 4)
            shares = [Fraction(draw.randrange(4), 3) for _ in cellar]
            wholes = [sum(amounts(inside).values(), Fraction(0)) for inside in cellar]
            mixed = {}
            for inside, share in zip(cellar, shares):
                for kind, much in amounts(inside).items():
                    mixed[kind] = mixed.get(kind, Fraction(0)) + much * share
            taken = pairs(*[share * whole for share, whole in zip(shares, wholes)])
            self.assertEqual(blended(cellar, taken), fill(**{kind: much for kind, much in mixed.items() if much}))

    def test_most_of(self):
        draw, seen = drawing(443), {True: 0, False: 0}
        for at in range(120):
            cellar = some_cellar(draw, 1 + at % 3, kinds=["a", "b"])
            parts = {kind: draw.randrange(4) for kind in draw.choice([["a", "b"], ["a"], ["b"], ["a", "b", "z"]])}
            parts = {kind: Fraction(much, sum(parts.values())) for kind, much in parts.items() if much}
            if not parts:
                continue
            many, wholes = len(cellar), [sum(amounts(inside).values(), Fraction(0)) for inside in cellar]
            rows = rows_for(cellar, {}, [])
            for kind in all_kinds(*cellar, fill(**parts)):
                row = [amounts(inside).get(kind, Fraction(0)) - parts.get(kind, Fraction(0)) * whole for inside,
                    whole in zip(cellar, wholes)]
                rows += [(row, Fraction(0)), ([-entry for entry in row], Fraction(0))]
            wanted = end_of_aim(many, rows, wholes)
            self.assertEqual(most_of(cellar, fill(**parts)), pair(wanted))
            seen[wanted > 0] += 1
        self.assertGreater(min(seen.values()), 20, seen)
        self.assertEqual(most_of(shares=fill(red=1), cellar=CELLAR), (4, 1))
        self.assertEqual(most_of(CELLAR, fill(red=Fraction(3, 4), white=Fraction(1, 4))), (4, 1))
        self.assertEqual(most_of(CELLAR, fill(red=Fraction(5, 6), white=Fraction(1, 6))), (6, 1))
        self.assertEqual(most_of(CELLAR, fill(white=1)), (0, 1))
        self.assertEqual(most_of(((),), fill(white=1)), (0, 1))

    def test_unneeded(self):
        draw, seen = drawing(444), {True: 0, False: 0}
        for at in range(120):
            cellar = some_cellar(draw, 1 + at % 4, kinds=["a", "b", "c"])
            wanted = []
            for cask, inside in enumerate(cellar):
                others = [other for place, other in enumerate(cellar) if place != cask and other]
                # Each of the others is taken so large that it never runs out.
                large = [fill(**{kind: much * 100000 for kind, much in amounts(other).items()}) for other in others]
                if inside and large and can(large, amounts(inside), all_kinds(*cellar)):
                    wanted.append(cask)
            self.assertEqual(unneeded(cellar), wanted)
            seen[bool(wanted)] += 1
        self.assertGreater(min(seen.values()), 15, seen)
        self.assertEqual(unneeded(cellar=(fill(a=1), fill(a=100), ())), [0, 1])
        self.assertEqual(unneeded((fill(a=LONG, b=LONG), fill(a=Fraction(1, LONG)), fill(b=Fraction(1, LONG)))), [0])
        self.assertEqual([unneeded(((),)), unneeded((fill(a=1),)), unneeded(((), fill(a=1)))], [[], [], []])
        self.all_new(unneeded, (fill(a=1), fill(a=100), ()))

    def test_edges(self):
        self.assertEqual(blend_for(fill=(), cellar=CELLAR), pairs(0, 0, 0))
        self.assertEqual(fewest_casks(fill=(), cellar=CELLAR), ())
        self.assertIsNone(no_blend(fill=(), cellar=CELLAR))
        self.assertIsNone(blend_for(CELLAR, fill(z=1)))
        self.assertIs(no_blend_holds(value=no_blend(CELLAR, fill(z=1)), fill=fill(z=1), cellar=CELLAR), True)
        self.assertIs(no_blend_holds(((),), fill(z=1), no_blend(((),), fill(z=1))), True)
        self.assertEqual(blend_for(CELLAR, fill(red=5, white=1)), pairs(4, 2, 0))
        self.assertIsNone(blend_for(CELLAR, fill(red=5 + Fraction(1, LONG), white=1)))
        self.assertEqual(fewest_casks((fill(a=1), fill(a=2), fill(a=2)), fill(a=2)), (1,))
        self.assertEqual(fewest_casks((fill(a=1), fill(a=2), fill(a=2)), fill(a=3)), (0, 1))
        self.assertEqual(fewest_casks((fill(a=1), fill(b=2), (), fill(a=1, b=1)), fill(a=1, b=1)), (3,))
        self.assertIsNone(fewest_casks((fill(a=1), fill(b=2)), fill(a=1, b=3)))
        self.assertEqual(blend_for(((), ()), ()), pairs(0, 0))

    def test_papers_of_any_kind(self):
        goal = fill(white=3)
        shown = ((("red", (0, 1)), ("white", (1, 1))), pairs(0, 1, 0))
        self.assertIs(no_blend_holds(CELLAR, goal, shown), True)
        prices, limits = shown
        for value in NONE_OF_ANY + [(), (prices,), (prices, limits, ()), [prices, limits], (list(prices), limits),
            (prices, list(limits)),
                (prices[:1], limits), (prices[1:], limits), (prices[::-1], limits), (prices + (("z", (0, 1)),), limits),
                (prices, limits[:2]), (prices, limits + ((0, 1),)), (prices, pairs(0, 1, -1)),
                (prices, ((0, 1), (2, 2), (0, 1))),
                (prices, (None,) * 3), (prices, (ECHO,) * 3), ((("red", (0, 1)), (ECHO, (1, 1))), limits),
                ((("red", (0, 1)), None), limits),
                ((("blue", (0, 1)), ("white", (1, 1))), limits), ((("red", (0, 1)), ("wine", (1, 1))), limits),
                ((("red", (0, 1)), ["white", (1, 1)]), limits), ((("red", (0, 1)), ("white", (2, 2))), limits),
                ((("red", (0, 1)), ("white", (1, 1), 1)), limits), ((("red", (0, 1)), ("white", ECHO)), limits),
                (prices, pairs(0, 2, 0)),
                ((("red", (0, 1)), ("white", (0, 1))), limits), (None, limits), (prices, None), (ODD, ECHO),
                ({"red": (0, 1), "white": (1, 1)}, limits)]:
            with self.subTest(value=value):
                self.assertIs(no_blend_holds(CELLAR, goal, value), False)

    def test_at_the_limits(self):
        draw, far = drawing(445), 10**30
        cellar = tuple(fill(**{kind: Fraction(draw.randrange(1, far), draw.randrange(1, far))
            for kind in "abcdefghijkl"}) for _ in range(8))
        wholes = [sum(amounts(inside).values()) for inside in cellar]
        taken = pairs(*[whole / (3 + cask) for cask, whole in enumerate(wholes)])
        goal = blended(cellar, taken)
        self.assertEqual(blend_for(cellar, goal), taken)
        self.assertEqual(fewest_casks(cellar, goal), tuple(range(8)))
        self.assertEqual(fewest_casks(cellar, blended(cellar, taken[:2] + pairs(*[0] * 6))), (0, 1))
        wrong = goal[:11] + (("l", pair(number(goal[11][1]) * 2)),)
        self.assertIs(no_blend_holds(cellar, wrong, no_blend(cellar, wrong)), True)
        self.assertEqual(unneeded(cellar), [])
        even = fill(**{kind: Fraction(1, 12) for kind in "abcdefghijkl"})
        self.assertEqual(most_of(cellar, even), (0, 1))
        two = tuple(inside[:2] for inside in cellar)
        self.assertGreater(number(most_of(two, fill(a=HALF_OF, b=1 - HALF_OF))), 0)


class Refusals(Case, unittest.TestCase):
    CALLS = [(blended, (None,)), (blend_for, (None,)), (no_blend, (None,)), (no_blend_holds, (None, None)),
        (most_of, (None,)),
        (fewest_casks, (None,)), (unneeded, ())]

    def test_wrong_inputs(self):
        for function, more in self.CALLS:
            for value in NO_CELLARS:
                self.refused(InvalidCellar, value, function, value, *more)
        for function, more in ((blend_for, ()), (no_blend, ()), (no_blend_holds, (None,)), (fewest_casks, ())):
            for value in NO_FILLS:
                self.refused(InvalidFill, value, function, CELLAR, value, *more)
        for value in NO_BLENDS:
            with self.subTest(value=value):
                self.refused(BadSizes, value, blended, CELLAR, value)
        for value in NO_SHARES:
            with self.subTest(value=value):
                self.refused(InvalidFill, value, most_of, CELLAR, value)


if __name__ == "__main__":
    unittest.main()
