import time
import unittest
from fractions import Fraction

from caskyears.errors import BadCask, BadRule, BadStory, InvalidCellar, InvalidNumber, TooMany
from caskyears.livecellar import Cellar
from caskyears.recipes import table_of as table_of_recipe, worked
from caskyears.scripts import plain, played, same_end, settles, steady, table_of, turns
from tests.helper import ECHO, NONE_OF_ANY, ODD, Case, drawing, fill, number, pair, pairs, some_cellar, some_recipe
from tests.helper import some_yearly
from tests.test_deeds import NO_DEEDS, filled, model, some_deeds
from tests.test_fills import NO_CELLARS, NO_KINDS
from tests.test_labels import NO_RULES, some_rule
from tests.test_livecellar import KEPT, NO_KEPT, YEARLY, by_hand
from tests.test_yearly import NO_YEARLY

HALF = (1, 2)
FILLS = (fill(red=6), fill(white=2))
RULE = (("red",), "least", HALF)
MOVE = ("move", 0, 1, HALF)
EMPTY = ("times", 0, (MOVE,))
CHOICE = ("if", 1, RULE, (("draw", 1, HALF),), (MOVE,))
BAD = [
    ("times", 3), ("times", 3, ()) + ((),), ("times", -1, ()), ("times", 201, ()), ("times", True, ()),
    ("times", None, ()), ("times", "3", ()),
    ("times", 3, []), ("times", 3, MOVE), ("times", 3, None), ["times", 3, ()], ("times", ECHO, ()),
    ("times", 3, (None,)), ("times", (1, 2), ()),
    ("times", 0, (("move", 0, 0, HALF),)), ("times", 2, (("times", 0, (ODD,)),)), ("if", 0, RULE, ()),
    ("if", 0, RULE, (), (), ()),
    ("if", -1, RULE, (), ()), ("if", True, RULE, (), ()), ("if", None, RULE, (), ()), ("if", 0, RULE, [], ()),
    ("if", 0, RULE, (), []),
    ("if", 0, RULE, (), None), ("if", 0, RULE, (None,), ()), ("if", 0, RULE, (), (("draw", 0, (3, 2)),)),
    ("If", 0, RULE, (), ()),
    ("year", YEARLY), ("year", YEARLY, "red", "red"), ["year", YEARLY, "red"], ("season",), ("season", KEPT, KEPT),
    ["season", KEPT],
    (ECHO, 3, ()), (None, 3, ()), ("do", MOVE), ("while", 0, RULE, (), ()), ("if", (0,), RULE, (), ()), ("season", ()),
] + [("if", 0, rule, (), ()) for rule in NO_RULES] + [("year", YEARLY, kind) for kind in NO_KINDS] \
    + [("year", yearly, "red") for yearly in NO_YEARLY] + [("times", 1, (value,)) for value in NO_DEEDS] + NO_DEEDS
FAR = [("draw", 2, HALF), ("move", 0, 2, HALF), ("add", 10**50, ()), ("if", 2, RULE, (), ()),
    ("if", 0, RULE, (("draw", 2, HALF),), ()),
    ("if", 0, RULE, (), (("draw", 2, HALF),)), ("times", 0, (("draw", 2, HALF),)), ("season", KEPT[:1]),
    ("season", KEPT + KEPT),
    ("year", (((HALF,),), pairs(1), pairs(0)), "red"), ("times", 2, (("season", KEPT[:1]),))]
NO_ENTRIES = BAD + [("season", kept) for kept in NO_KEPT]


def fits(inside, rule):
    """Return whether a rule fits a dict of amounts."""
    kinds, sense, share = rule
    part = sum((much for kind, much in inside.items() if kind in kinds), Fraction(0))
    limit = number(share) * sum(inside.values(), Fraction(0))
    return part >= limit if sense == "least" else part <= limit


def play_by_hand(casks, script, done):
    """Return the casks behind a script, worked kind by kind, and put what is done at the end of a list."""
    for entry in script:
        if entry[0] == "times":
            for _ in range(entry[1]):
                casks = play_by_hand(casks, entry[2], done)
        elif entry[0] == "if":
            casks = play_by_hand(casks, entry[3] if fits(casks[entry[1]], entry[2]) else entry[4], done)
        else:
            done.append(entry)
            casks = by_hand(casks, entry)[0]
    return casks


def some_script(draw, casks, depth, loose=True):
    """Return a script of drawn entries, one in another so many times at most."""
    script = []
    for _ in range(draw.randrange(4)):
        word = draw.choice(["deed", "deed", "times", "if", "year", "season"]) if loose else draw.choice(["deed", "deed",
            "times"])
        if word == "times" and depth:
            script.append(("times", draw.randrange(4), some_script(draw, casks, depth - 1, loose)))
        elif word == "if" and depth:
            parts = [some_script(draw, casks, depth - 1) for _ in range(2)]
            script.append(("if", draw.randrange(casks), some_rule(draw, ["red", "white"]), *parts))
        elif word == "year":
            script.append(("year", some_yearly(draw, casks), draw.choice(["red", "b"])))
        elif word == "season":
            script.append(("season", tuple(pair(Fraction(draw.randrange(4), 3)) for _ in range(casks))))
        else:
            script += some_deeds(draw, casks, 1) if loose else list(some_recipe(draw, casks, 1))
    return tuple(script)


class Scripts(Case, unittest.TestCase):
    def test_playing(self):
        draw, seen = drawing(421), {"alike": 0, "unlike": 0, "steady": 0, "loose": 0}
        for at in range(150):
            casks = 1 + at % 3
            fills, script = some_cellar(draw, casks, kinds=["red", "white"]), some_script(draw, casks, 3)
            done = []
            ends = filled(play_by_hand(model(fills), script, done))
            cellar = played(fills, script)
            self.assertIsInstance(cellar, Cellar)
            self.assertEqual([cellar.fills, cellar.story, cellar.depth], [ends, tuple(done), 0])
            self.assertEqual(plain(fills, script), tuple(done))
            self.assertTrue(played(fills, plain(fills, script)) == cellar)
            for entry in done[::-1]:
                self.assertEqual(cellar.undo(), entry[0] if entry[0] in ("year", "season") else "do")
            self.assertEqual(cellar.fills, fills)
            other = draw.choice([plain(fills, script), some_script(draw, casks, 2), script + (EMPTY[:2] + ((),),)])
            alike = filled(play_by_hand(model(fills), other, [])) == ends
            self.assertIs(same_end(fills, script, other), alike)
            seen["alike" if alike else "unlike"] += 1
            seen["steady" if steady(script) else "loose"] += 1
            self.assertIs(steady(script), self.is_steady(script))
        self.assertGreater(min(seen.values()), 25, seen)

    def is_steady(self, script):
        """Return whether a script has nothing loose."""
        return all(self.is_steady(entry[2]) if entry[0] == "times" else entry[0] in ("move", "swap", "draw", "keep")
            for entry in script)

    def test_tables_of_steady_scripts(self):
        draw = drawing(422)
        for at in range(120):
            casks = 1 + at % 4
            fills, script = some_cellar(draw, casks), some_script(draw, casks, 3, loose=False)
            self.assertIs(steady(script=script), True)
            table = table_of(casks, script)
            self.assertEqual(worked(table, fills), played(fills, script).fills)
            self.assertEqual(table, table_of_recipe(plain(fills, script), casks))
        self.assertEqual(table_of(script=(), number=2), (pairs(1, 0), pairs(0, 1)))
        back = (("move", 0, 1, (1, 3)), ("move", 1, 0, (1, 1)))
        self.assertEqual(table_of(2, (("times", 2, back),)), (pairs(1, 1), pairs(0, 0)))
        self.assertEqual(table_of(1, (("times", 200, (("draw", 0, HALF),)),)), (((1, 2**200),),))
        self.assertEqual(table_of(1, (("times", 0, (("draw", 0, HALF),)), ("keep", 0, (1, 3)))), (((1, 3),),))

    def test_edges(self):
        self.assertEqual(plain(script=(EMPTY, MOVE), fills=FILLS), (MOVE,))
        self.assertEqual(played(script=(), fills=FILLS).fills, FILLS)
        self.assertEqual(plain(FILLS, (CHOICE, CHOICE, CHOICE)), (MOVE, ("draw", 1, HALF), ("draw", 1, HALF)))
        # A rule fits an empty cask.
        self.assertEqual(plain(((), ()), (CHOICE,)), (("draw", 1, HALF),))
        self.assertIs(same_end(other=(MOVE,), script=(EMPTY, MOVE), fills=FILLS), True)
        self.assertIs(same_end(FILLS, (MOVE, MOVE), (("move", 0, 1, (3, 4)),)), True)
        self.assertIs(same_end(FILLS, (MOVE,), ()), False)
        self.assertIs(steady((EMPTY, ("swap", 0, 10**50, HALF))), True)
        for entry in (("add", 0, ()), ("season", KEPT), ("year", YEARLY, "a"), ("if", 10**50, RULE, (), ())):
            self.assertIs(steady((MOVE, entry)), False)
            self.assertIs(steady((("times", 0, (("times", 0, (entry,)),)),)), False)
        for many in (1, 8):
            self.assertIs(steady((("season", KEPT[:1] * many),)), False)
        for kept in (KEPT[:1] * 9, (None,), ((3, 2),), list(KEPT)):
            self.refused(BadStory, 1, steady, (MOVE, ("season", kept)))
        # What does nothing may be done very many times.
        nothing = ()
        for _ in range(4):
            nothing = (("times", 200, nothing),)
        self.assertEqual(plain(FILLS, nothing), ())
        self.assertIs(same_end(FILLS, nothing + (MOVE,), (MOVE,)), True)

    def test_just_two_thousand(self):
        much = (("times", 100, (("times", 20, (("move", 0, 1, (0, 1)),)),)),)
        self.assertEqual(len(played(FILLS, much)), 2000)
        for one in (MOVE, ("season", KEPT), ("year", YEARLY, "a"), ("add", 0, ())):
            self.assertEqual(len(plain(FILLS, (one,) * 2000)), 2000)
            for function, more in ((played, ()), (plain, ()), (same_end, ((),)), (turns, (1,)),
                (settles, (0, RULE, 1))):
                self.refused(TooMany, 2000, function, FILLS, much + (one,), *more)
        self.refused(TooMany, 2000, same_end, FILLS, (), much + (MOVE,))
        self.assertEqual(len(plain(FILLS, much + (EMPTY, ("if", 0, RULE, (), (MOVE,))))), 2000)
        self.assertEqual(len(turns(FILLS, much + (MOVE,), 0)), 1)
        self.assertEqual(settles(FILLS, much + (MOVE,), 0, RULE, 0), 0)
        # Each time again is a playing of its own.
        self.assertEqual(turns(FILLS, much, 3), [FILLS] * 4)
        self.refused(BadStory, 1, same_end, FILLS, much + (MOVE,), ((), None)[:0] + (MOVE, None))
        self.refused(InvalidNumber, 301, turns, FILLS, much + (MOVE,), 301)
        self.refused(BadCask, 2, settles, FILLS, much + (MOVE,), 2, None, -1)

    def test_turns(self):
        draw, seen = drawing(423), {None: 0, 0: 0, 1: 0, 2: 0}
        for at in range(200):
            casks, most = 1 + at % 3, draw.randrange(7)
            fills, script = some_cellar(draw, casks, kinds=["red", "white"]), some_script(draw, casks, 1)
            wanted, casks_there = [fills], model(fills)
            for _ in range(most):
                casks_there = play_by_hand(casks_there, script, [])
                wanted.append(filled(casks_there))
            self.assertEqual(turns(fills, script, most), wanted)
            cask, rule = draw.randrange(casks), some_rule(draw, ["red", "white"])
            right = [fits(model(stage)[cask], rule) for stage in wanted]
            found = next((number_of for number_of in range(most + 1) if all(right[number_of:])), None)
            self.assertEqual(settles(fills, script, cask, rule, most), found)
            seen[found] = seen.get(found, 0) + 1
        self.assertGreater(min(seen[found] for found in (None, 0, 1)), 5, seen)
        self.assertEqual(turns(most=0, script=(MOVE,), fills=FILLS), [FILLS])
        self.assertEqual(settles(most=4, rule=(("white",), "least", HALF), cask=0, script=(("swap", 0, 1, (1, 3)),),
            fills=FILLS), None)
        self.all_new(turns, FILLS, (MOVE,), 2)

    def test_at_the_limits(self):
        draw, far = drawing(424), 10**30
        started = time.monotonic()
        share = lambda: pair(Fraction(draw.randrange(1, far), far + draw.randrange(99)))
        fills = tuple(fill(a=Fraction(draw.randrange(1, far), draw.randrange(1, far)), b=cask + 1) for cask in range(8))
        deeds = tuple(("move", *draw.sample(range(8), 2), share()) for _ in range(10))
        whole = played(fills, (("times", 200, deeds),))
        self.assertEqual(len(whole), 2000)
        left = worked(table_of(8, (("times", 200, deeds),)), fills)
        self.assertEqual(whole.fills[0][0], left[0][0])
        self.assertIs(same_end(fills, (("times", 200, deeds),), deeds * 200), True)
        self.assertEqual(len(turns(fills, deeds[:1], 300)), 301)
        settles(fills, deeds[:2], 1, (("a",), "least", HALF), 300)
        back = (("times", 100, (("move", 0, 1, HALF), ("move", 1, 0, (1, 1)))),)
        self.assertEqual(turns(((fill(a=1)), ()), back, 100)[1:], [(fill(a=1), ())] * 100)
        self.assertLess(time.monotonic() - started, 100)


class Refusals(Case, unittest.TestCase):
    CALLS = [(played, ()), (plain, ()), (same_end, (None,)), (turns, (-1,)), (settles, (-1, None, -1))]

    def test_cellars_and_scripts(self):
        for function, more in self.CALLS:
            for value in NO_CELLARS:
                self.refused(InvalidCellar, value, function, value, None, *more)
            for value in NO_ENTRIES + FAR:
                with self.subTest(value=value):
                    self.refused(BadStory, 0, function, FILLS, (value,), *more)
                    self.refused(BadStory, 2, function, FILLS, (MOVE, CHOICE, value, None), *more)
            for value in NONE_OF_ANY + [[], [MOVE], {0: MOVE}]:
                self.refused(BadStory, 0 if isinstance(value, tuple) else value, function, FILLS, value, *more)
        for value in NO_ENTRIES + FAR:
            self.refused(BadStory, 1, same_end, FILLS, (), (MOVE, value))
        self.refused(BadStory, [], same_end, FILLS, (), [])

    def test_steady_and_tables(self):
        for value in BAD:
            with self.subTest(value=value):
                self.refused(BadStory, 1, steady, (MOVE, value))
                self.refused(BadStory, 1, table_of, 2, (MOVE, value, None))
        for value in FAR + [("add", 0, ()), ("season", KEPT), ("year", YEARLY, "red"), CHOICE, ("times", 0, (CHOICE,)),
                ("times", 2, (("times", 1, (("add", 0, ()),)),))]:
            self.refused(BadStory, 1, table_of, 2, (MOVE, value, None))
        for value in NONE_OF_ANY + [[], {0: MOVE}]:
            self.refused(BadStory, 0 if isinstance(value, tuple) else value, steady, value)
            self.refused(BadStory, 0 if isinstance(value, tuple) else value, table_of, 2, value)
        for value in (0, -1, 9, 10**50):
            self.refused(InvalidNumber, value, table_of, value, None)

    def test_numbers_casks_and_rules(self):
        for most in (-1, 301, 10**50):
            self.refused(InvalidNumber, most, turns, FILLS, (MOVE,), most)
            self.refused(InvalidNumber, most, settles, FILLS, (MOVE,), 0, RULE, most)
        for cask in (-1, 2, 10**50, None, True, "0", [0], (0,)):
            self.refused(BadCask, cask, settles, FILLS, (MOVE,), cask, None, -1)
        for value in NO_RULES:
            self.refused(BadRule, value, settles, FILLS, (MOVE,), 0, value, -1)


if __name__ == "__main__":
    unittest.main()
