import unittest
from fractions import Fraction

from caskyears.errors import BadCask, BadStory, BadWeather, InvalidCellar, InvalidDeed, InvalidFill, InvalidYearly
from caskyears.errors import NoBlock, Nothing, Unlike
from caskyears.fills import together
from caskyears.livecellar import Cellar
from caskyears.recipes import table_of, worked
from caskyears.yearly import glass, totals
from tests.helper import ECHO, LONG, NONE_OF_ANY, ODD, Case, drawing, fill, number, pair, pairs, some_cellar
from tests.helper import some_recipe, some_yearly
from tests.test_deeds import NO_DEEDS, filled, model, some_deeds, work
from tests.test_fills import NO_CELLARS, NO_KINDS
from tests.test_yearly import NO_YEARLY

HALF = (1, 2)
FILLS = (fill(red=6), ())
YEARLY = (((HALF, (0, 1)), (HALF, (1, 1))), pairs(1, 0), pairs(0, Fraction(1, 3)))
KEPT = ((1, 2), (1, 1))
NO_KEPT = NONE_OF_ANY + [
    (), KEPT[:1], KEPT + KEPT[:1], list(KEPT), ((1, 2), None), ((1, 2), [1, 1]), ((1, 2), (3, 2)), ((1, 2), (-1, 2)),
    ((1, 2), (2, 2)),
    ((1, 2), 1), ((1, 2), (True, 1)), ((1, 2), ECHO), {0: HALF}, ((1, 2), ((0, 1), (1, 1))),
]


class Model:
    """A living cellar by hand: dicts of amounts, worked entry by entry from the beginning."""

    def __init__(self, fills, entries=()):
        self.first, self.entries = fills, list(entries)

    def all(self):
        """Return the casks, what left, what was born, each as dicts, and what left by each entry."""
        casks, left, born, gone = model(self.first), {}, {}, []
        for inside in casks:
            add_to(born, inside)
        for entry in self.entries:
            casks, out, comes, told = by_hand(casks, entry)
            for inside in out:
                add_to(left, inside)
            add_to(born, comes)
            gone.append(told)
        return casks, left, born, gone


def add_to(whole, inside):
    """Add the amounts of a dict to another one."""
    for kind, much in inside.items():
        whole[kind] = whole.get(kind, Fraction(0)) + much


def times(inside, share):
    """Return a dict of amounts, each times a share."""
    return {kind: much * share for kind, much in inside.items()}


def by_hand(casks, entry):
    """Return the casks behind an entry, a list of what left, what was put in, and what it returns."""
    if entry[0] == "season":
        kept = [number(share) for share in entry[1]]
        lost = [times(inside, 1 - share) for inside, share in zip(casks, kept)]
        return [times(inside, share) for inside, share in zip(casks, kept)], lost, {}, None
    if entry[0] == "year":
        (table, into, tap), kind = entry[1], entry[2]
        drawn = [times(inside, number(share)) for inside, share in zip(casks, tap)]
        rest = [times(inside, 1 - number(share)) for inside, share in zip(casks, tap)]
        behind, lost = [{} for _ in casks], []
        for source, inside in enumerate(rest):
            shares = [number(row[source]) for row in table]
            lost.append(times(inside, 1 - sum(shares)))
            for goal, share in enumerate(shares):
                add_to(behind[goal], times(inside, share))
        for goal, much in enumerate(into):
            add_to(behind[goal], {kind: number(much)})
        comes = {kind: sum((number(much) for much in into), Fraction(0))}
        return behind, drawn + lost, comes, tuple(filled(drawn))
    comes = {kind: number(much) for kind, much in entry[2]} if entry[0] == "add" else {}
    behind, taken, gone = work(casks, entry)
    return behind, [taken, gone], comes, filled([taken if entry[0] == "draw" else gone])[0]


def some_step(draw, casks, cellar):
    """Do a drawn step of a cellar; return its word, its entries and what it returned."""
    word = draw.choice(["do", "do", "do", "all", "year", "season"])
    if word == "do":
        deed = draw.choice(some_deeds(draw, casks, 3))
        return word, [deed], cellar.do(deed)
    if word == "all":
        deeds = tuple(some_deeds(draw, casks, draw.randrange(4)))
        return word, list(deeds), cellar.do_all(deeds)
    if word == "year":
        yearly, kind = some_yearly(draw, casks), draw.choice(["new", "red"])
        return word, [("year", yearly, kind)], cellar.year(yearly, kind)
    kept = tuple(pair(Fraction(draw.randrange(4), 3)) for _ in range(casks))
    return word, [("season", kept)], cellar.season(kept)


class Living(Case, unittest.TestCase):
    def check(self, cellar, model_of, depth=0):
        """Check all that a cellar tells of itself against one by hand."""
        casks, left, born, _ = model_of.all()
        self.assertEqual(cellar.fills, filled(casks))
        self.assertEqual(cellar.left, filled([left])[0])
        self.assertEqual(cellar.born, filled([born])[0])
        self.assertEqual(cellar.story, tuple(model_of.entries))
        self.assertIsInstance(cellar.story, tuple)
        self.assertEqual([len(cellar), cellar.casks, cellar.depth], [len(model_of.entries), len(casks), depth])
        self.assertEqual(cellar.born, together([cellar.left] + list(cellar.fills)))
        for cask, inside in enumerate(casks):
            whole = sum(inside.values(), Fraction(0))
            shares = tuple((kind, pair(inside[kind] / whole)) for kind in sorted(inside) if inside[kind])
            self.assertEqual(cellar.glass(cask), shares)

    def test_steps_blocks_and_twins(self):
        draw = drawing(411)
        for at in range(60):
            casks = 1 + at % 3
            fills = some_cellar(draw, casks, kinds=["red", "white"])
            cellar, steps, blocks = Cellar(fills), [], []
            for _ in range(14):
                move = draw.choice(["step", "step", "step", "undo", "begin", "keep", "drop", "twin"])
                if move == "step":
                    ahead = Model(fills, [entry for _, entries in steps for entry in entries])
                    word, entries, told = some_step(draw, casks, cellar)
                    behind = Model(fills, ahead.entries + entries)
                    gone = behind.all()[3][len(ahead.entries) :]
                    self.assertEqual(told, tuple(gone) if word == "all" else gone[0])
                    steps.append((word, entries))
                elif move == "undo":
                    if len(steps) == (blocks[-1] if blocks else 0):
                        self.refused(Nothing, None, cellar.undo)
                    else:
                        self.assertEqual(cellar.undo(), steps.pop()[0])
                elif move == "begin":
                    self.assertIsNone(cellar.begin())
                    blocks.append(len(steps))
                elif move in ("keep", "drop"):
                    if not blocks:
                        self.refused(NoBlock, None, getattr(cellar, move))
                    else:
                        self.assertIsNone(getattr(cellar, move)())
                        floor = blocks.pop()
                        steps = steps[:floor] if move == "drop" else steps
                else:
                    cellar, blocks = self.check_twin(cellar, steps, blocks, draw), []
                self.check(cellar, Model(fills, [entry for _, entries in steps for entry in entries]), len(blocks))

    def check_twin(self, cellar, steps, blocks, draw):
        """Check a twin of a cellar, and that neither hears of what is done to the other one; return the twin."""
        twin = cellar.twin()
        self.assertIsInstance(twin, Cellar)
        self.assertTrue(twin == cellar)
        self.assertEqual([twin.depth, cellar.depth], [0, len(blocks)])
        fills, story = cellar.fills, cellar.story
        for word, _ in steps[::-1]:
            self.assertEqual(twin.undo(), word)
        self.refused(Nothing, None, twin.undo)
        self.assertEqual([cellar.fills, cellar.story], [fills, story])
        twin.do(("add", 0, fill(z=1)))
        self.assertFalse(twin == cellar)
        other = cellar.twin()
        cellar.begin()
        some_step(draw, cellar.casks, cellar)
        self.assertEqual([other.fills, other.story, other.depth], [fills, story, 0])
        cellar.drop()
        self.assertEqual([cellar.fills, cellar.story], [fills, story])
        return other

    def test_undo_of_each_step(self):
        cellar = Cellar(fills=FILLS)
        self.refused(Nothing, None, cellar.undo)
        self.assertEqual(cellar.do(deed=("draw", 0, HALF)), fill(red=3))
        self.assertEqual(cellar.do(("keep", 0, (1, 3))), fill(red=2))
        self.assertEqual(cellar.do(("add", 1, fill(white=1))), ())
        self.assertEqual(cellar.do(("move", 0, 1, (1, 1))), ())
        self.assertEqual(cellar.do(("draw", 0, HALF)), ())
        self.assertEqual(cellar.do_all(deeds=(("draw", 1, HALF), ("add", 0, fill(b=2)), ("keep", 0, (0, 1)))),
            (fill(red=Fraction(1, 2), white=Fraction(1, 2)), (), fill(b=2)))
        self.assertEqual(cellar.do_all(()), ())
        self.assertEqual(cellar.year(yearly=YEARLY, kind="new"), ((), fill(red=Fraction(1, 6), white=Fraction(1, 6))))
        self.assertIsNone(cellar.season(kept=KEPT))
        self.assertEqual(cellar.fills, (fill(new=Fraction(1, 2)), fill(red=Fraction(1, 3), white=Fraction(1, 3))))
        self.assertEqual(len(cellar), 10)
        self.assertEqual([cellar.undo() for _ in range(4)], ["season", "year", "all", "all"])
        self.assertEqual([cellar.undo() for _ in range(5)], ["do"] * 5)
        self.assertTrue(cellar == Cellar(FILLS))
        self.refused(Nothing, None, cellar.undo)

    def test_blocks_within_blocks(self):
        cellar = Cellar(FILLS)
        self.refused(NoBlock, None, cellar.keep)
        self.refused(NoBlock, None, cellar.drop)
        cellar.do(("draw", 0, HALF))
        cellar.begin()
        self.refused(Nothing, None, cellar.undo)
        cellar.do(("draw", 0, HALF))
        cellar.begin()
        cellar.do(("draw", 0, HALF))
        cellar.do_all((("draw", 0, HALF), ("draw", 0, HALF)))
        cellar.keep()
        self.assertEqual([cellar.depth, len(cellar), cellar.undo()], [1, 5, "all"])
        cellar.begin()
        cellar.season(KEPT)
        cellar.begin()
        self.assertEqual(cellar.depth, 3)
        self.refused(Nothing, None, cellar.undo)
        cellar.drop()
        cellar.drop()
        self.assertEqual([cellar.depth, len(cellar)], [1, 3])
        cellar.drop()
        self.assertEqual([cellar.depth, cellar.story], [0, (("draw", 0, HALF),)])
        self.refused(NoBlock, None, cellar.drop)
        self.assertEqual(cellar.undo(), "do")
        self.assertEqual(cellar.fills, FILLS)

    def test_equality(self):
        one, other = Cellar(FILLS), Cellar(FILLS)
        one.do_all((("draw", 0, HALF), ("add", 1, ())))
        self.assertFalse(one == other)
        self.assertTrue(one != other)
        other.begin()
        other.do(("draw", 0, HALF))
        other.do(("draw", 0, HALF))
        other.undo()
        other.do(("add", 1, ()))
        self.assertTrue(one == other)
        self.assertFalse(one != other)
        one.do(("add", 1, ()))
        self.assertEqual(one.fills, other.fills)
        self.assertFalse(one == other)
        self.assertFalse(Cellar((fill(red=1), ())) == Cellar(((), fill(red=1))))
        # Unlike pasts are not equal, though the fills are.
        moved = Cellar(((), fill(red=1)))
        moved.do(("move", 1, 0, (1, 1)))
        self.assertFalse(moved == Cellar((fill(red=1), ())))
        for value in NONE_OF_ANY + [FILLS, (FILLS, ()), like_a_cellar()]:
            self.assertIs(Cellar(FILLS) == value, False)
        self.assertIs(Cellar(FILLS) == Cellar(FILLS), True)

    def test_recipes_and_years(self):
        draw = drawing(412)
        for at in range(60):
            casks = 1 + at % 4
            fills, recipe = some_cellar(draw, casks), some_recipe(draw, casks, draw.randrange(9))
            cellar = Cellar(fills)
            cellar.do_all(recipe)
            self.assertEqual(cellar.fills, worked(table_of(recipe, casks), fills))
            yearly = some_yearly(draw, casks)
            aging = Cellar(tuple(fill(**{"w": number(much)}) if much[0] else () for much in yearly[1]))
            for year in range(1, 5):
                drawn = aging.year(yearly, "w")
                told = sum((number(much) for _, much in glass(yearly, year)), Fraction(0))
                self.assertEqual(sum((number(much) for inside in drawn for _, much in inside), Fraction(0)), told)
                sizes = [sum((number(much) for _, much in inside), Fraction(0)) for inside in aging.fills]
                self.assertEqual(pairs(*sizes), totals(yearly, year))

    def test_changes_from_outside(self):
        cellar = Cellar(FILLS)
        self.assertEqual([cellar.left, cellar.born, cellar.story, cellar.glass(cask=1)], [(), fill(red=6), (), ()])
        for name in ("fills", "casks", "depth", "story", "left", "born"):
            self.assertIsInstance(vars(Cellar)[name], property)
        for name in ("do", "do_all", "year", "season", "undo", "begin", "keep", "drop", "twin", "glass", "__len__",
            "__eq__"):
            self.assertIn(name, vars(Cellar))

    def test_at_the_limits(self):
        draw, far = drawing(413), 10**30
        share = lambda: pair(Fraction(draw.randrange(1, far), far + draw.randrange(99)))
        fills = tuple(fill(a=Fraction(draw.randrange(1, far), draw.randrange(1, far)), b=cask + 1) for cask in range(8))
        cellar = Cellar(fills)
        for at in range(2000):
            if at % 500 == 499:
                cellar.season(tuple(share() for _ in range(8)))
            else:
                cellar.do(("draw", at % 8, share()) if at % 40 == 3 else ("move", *draw.sample(range(8), 2), share()))
        self.assertEqual(len(cellar), 2000)
        ends, lefts = cellar.fills, dict(cellar.left)
        prime = 2**61 - 1
        for kind, much in cellar.born:
            parts = [dict(inside)[kind] for inside in ends] + [lefts[kind]]
            sums = sum(above % prime * pow(below % prime, -1, prime) for above, below in parts)
            self.assertEqual(sums % prime, much[0] * pow(much[1], -1, prime) % prime)
        for _ in range(2000):
            cellar.undo()
        self.assertTrue(cellar == Cellar(fills))
        self.assertEqual(cellar.fills, fills)


def like_a_cellar():
    """Return an object with the same attributes that is none."""
    class Like:
        fills, story = FILLS, ()
    return Like()


class Refusals(Case, unittest.TestCase):
    def setUp(self):
        self.cellar = Cellar(FILLS)
        self.cellar.do(("move", 0, 1, HALF))
        self.cellar.begin()

    def tearDown(self):
        """Check that nothing was changed by any error."""
        self.assertEqual([self.cellar.fills, self.cellar.story, self.cellar.depth, self.cellar.left, self.cellar.born],
            [(fill(red=3), fill(red=3)), (("move", 0, 1, HALF),), 1, (), fill(red=6)])
        self.refused(Nothing, None, self.cellar.undo)

    def test_cellars(self):
        for value in NO_CELLARS:
            self.refused(InvalidCellar, value, Cellar, value)

    def test_deeds(self):
        for value in NO_DEEDS + [("move", 0, 2, HALF), ("draw", 2, HALF), ("add", 10**50, ()), ("season", KEPT)]:
            with self.subTest(value=value):
                self.refused(InvalidDeed, value, self.cellar.do, value)
                self.refused(BadStory, 0, self.cellar.do_all, (value, None))
                self.refused(BadStory, 2, self.cellar.do_all, (("draw", 0, HALF), ("add", 0, fill(z=1)), value, None))
        for value in NONE_OF_ANY + [[], [("draw", 0, HALF)], {}]:
            self.refused(BadStory, 0 if isinstance(value, tuple) else value, self.cellar.do_all, value)

    def test_years(self):
        for value in NO_YEARLY:
            with self.subTest(value=value):
                self.refused(InvalidYearly, value, self.cellar.year, value, None)
        one = (((HALF,),), pairs(1), pairs(0))
        self.refused(Unlike, 1, self.cellar.year, one, None)
        self.refused(Unlike, 3, self.cellar.year, ((pairs(0, 0, 0),) * 3, pairs(0, 0, 0), pairs(0, 0, 0)), "Red")
        for kind in NO_KINDS:
            self.refused(InvalidFill, kind, self.cellar.year, YEARLY, kind)

    def test_seasons_and_glasses(self):
        for value in NO_KEPT:
            with self.subTest(value=value):
                self.refused(BadWeather, value, self.cellar.season, value)
        for cask in (-1, 2, 10**50, None, True, "0", [0], (0,), ODD):
            self.refused(BadCask, cask, self.cellar.glass, cask)
        self.refused(BadWeather, (pair(LONG, LONG - 1), HALF), self.cellar.season, (pair(LONG, LONG - 1), HALF))


if __name__ == "__main__":
    unittest.main()
