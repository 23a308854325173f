import unittest
from itertools import combinations

from caskyears.deeds import run
from caskyears.errors import BadLot, BadStory, BadTold, InvalidCellar
from caskyears.traces import carried, look_tree, looks, lots, road, road_holds, suspects, touched
from tests.helper import ECHO, LONG, NONE_OF_ANY, ODD, Case, drawing, fill, pair
from tests.test_deeds import NO_DEEDS, some_deeds
from tests.test_fills import NO_CELLARS

HALF, ALL, NONE = (1, 2), (1, 1), (0, 1)
RED = fill(red=1)
CELLAR = (RED, (), RED)
STORY = (("add", 1, RED), ("draw", 0, HALF), ("move", 0, 1, HALF), ("draw", 1, HALF))
NO_ENTRIES = NO_DEEDS + [("draw", 3, HALF), ("move", 0, 3, HALF), ("add", 3, ()), ("season", (ALL, ALL, ALL)),
    ("keep", 10**40, HALF)]
NO_LOTS = NONE_OF_ANY[3:] + [None, True, False, 1, 2, 3, 4, -2, -4, 10**50, -(10**50), [0], (0,), "0", (-1,)]
NO_LOTS = [value for value in NO_LOTS if not (isinstance(value, int) and not isinstance(value, bool) and value in (0,
    -1, -3))]
NO_TOLD = NONE_OF_ANY + [
    [], [(1, True)], ((1, True), None), ([1, True],), ((1,),), ((1, True, True),), ((1, 1),), ((1, 0),), ((1, None),),
    ((0, True),), ((2, False),), ((4, True),), ((-1, True),), ((True, True),), ((10**50, True),), (("1", True),),
    ((None, True),),
    ((1, ECHO),), ((ECHO, True),), ((ODD, True),), {1: True}, (1, True),
]


def marked(cellar, story):
    """Return the cellar and the story with each lot as a kind of its own, and the kinds by lots."""
    names, casks = {}, []
    letters = ["a" + letter for letter in "abcdefghijklmnopqrstuvwxyz"]
    for cask, inside in enumerate(cellar):
        if inside:
            names[-1 - cask] = letters.pop()
            casks.append(fill(**{names[-1 - cask]: 1}))
        else:
            casks.append(())
    entries = []
    for at, entry in enumerate(story):
        if entry[0] == "add" and entry[2]:
            names[at] = letters.pop()
            entry = ("add", entry[1], fill(**{names[at]: 1}))
        entries.append(entry)
    return tuple(casks), entries, names


def inside_of(cellar, story):
    """Return the lots, and the list, ahead of each entry and at the end, of the lists of lots in each cask."""
    cellar, entries, names = marked(cellar, story)
    stages = run(cellar, entries)
    return sorted(names), [[[lot for lot in sorted(names) if names[lot] in dict(cask)] for cask in stage]
        for stage in stages]


def carried_in(cellar, story):
    """Return a dict, by the indexes of the draws, of the lots that they carry."""
    _, stages = inside_of(cellar, story)
    return {at: stages[at][entry[1]] if entry[2] != NONE else [] for at, entry in enumerate(story)
        if entry[0] == "draw"}


def is_road(story, lot, index, indexes):
    """Return whether indexes are a road, worked by what each entry takes and brings."""
    start, cask = (0, -1 - lot) if lot < 0 else (lot + 1, story[lot][1])
    if not indexes or indexes[-1] != index or list(indexes) != sorted(set(indexes)) or indexes[0] < start:
        return False
    for at in range(start, index + 1):
        entry, here = story[at], story[at][1:-1] if story[at][0] != "add" else ()
        if at in indexes:
            if at == index:
                return entry[0] == "draw" and entry[1] == cask and entry[2] != NONE
            if entry[0] == "move" and entry[1] == cask and entry[3] != NONE:
                cask = entry[2]
            elif entry[0] == "swap" and cask in here and entry[3] != NONE:
                cask = here[1] if here[0] == cask else here[0]
            else:
                return False
        elif entry[0] == "keep":
            if entry[1] == cask and entry[2] == NONE:
                return False
        elif here and entry[-1] == ALL and (here[0] == cask or (entry[0] == "swap" and here[1] == cask)):
            return False
    return False


def all_roads(story, lot, index):
    """Return all roads of a lot to a draw."""
    return [list(chosen) + [index] for many in range(index + 1) for chosen in combinations(range(index), many)
        if is_road(story, lot, index, list(chosen) + [index])]


def least_depth(fit, sets):
    """Return the least depth of looks that tell apart all that fit, None if none do."""
    if len(fit) < 2:
        return 0
    depths = []
    for carried_lots in sets:
        bad = [lot for lot in fit if lot in carried_lots]
        good = [lot for lot in fit if lot not in carried_lots]
        if bad and good:
            both = [least_depth(bad, sets), least_depth(good, sets)]
            if None not in both:
                depths.append(1 + max(both))
    return min(depths, default=None)


def leaves(tree, fit, bads):
    """Return the list of the leaves of a tree with the lots that reach each, and its depth."""
    if tree[0] == "is":
        return [(tree[1], fit)], 0
    word, index, if_bad, if_good = tree
    assert word == "look"
    one, depth = leaves(if_bad, [lot for lot in fit if lot in bads[index]], bads)
    other, more = leaves(if_good, [lot for lot in fit if lot not in bads[index]], bads)
    return one + other, 1 + max(depth, more)


class Traces(Case, unittest.TestCase):
    def test_lots_are_where_kinds_of_their_own_are(self):
        draw = drawing(311)
        seen = {"touched": 0, "gone": 0, "carried": 0}
        for _ in range(120):
            casks = draw.randrange(1, 4)
            cellar = tuple(draw.choice([RED, RED, ()]) for _ in range(casks))
            story = tuple(some_deeds(draw, casks, draw.randrange(9)))
            wanted, stages = inside_of(cellar, story)
            self.assertEqual(lots(cellar, story), wanted)
            for lot in wanted:
                found = [cask for cask in range(casks) if lot in stages[-1][cask]]
                self.assertEqual(touched(cellar, story, lot), found)
                seen["touched" if found else "gone"] += 1
            for at, bads in carried_in(cellar, story).items():
                self.assertEqual(carried(cellar, story, at), bads)
                seen["carried"] += len(bads)
                for lot in wanted:
                    self.check_roads(cellar, story, lot, at, lot in bads)
        self.assertGreater(min(seen.values()), 20, seen)

    def check_roads(self, cellar, story, lot, index, is_carried):
        """Check the roads of a lot to a draw against all there are."""
        roads = all_roads(story, lot, index)
        self.assertEqual(bool(roads), is_carried)
        found = road(cellar, story, lot, index)
        if not roads:
            self.assertIsNone(found)
        else:
            self.assertIn(found, roads)
            self.assertEqual(len(found), min(map(len, roads)))
        for many in range(min(index, 3) + 1):
            for chosen in combinations(range(index + 1), many):
                for value in (list(chosen) + [index], list(chosen)):
                    self.assertIs(road_holds(cellar, story, lot, index, value), value in roads)

    def test_edges(self):
        self.assertEqual(lots(story=STORY + (("add", 0, ()), ("add", 0, RED)), cellar=CELLAR), [-3, -1, 0, 5])
        self.assertEqual(touched(lot=-1, story=STORY, cellar=CELLAR), [0, 1])
        self.assertEqual(carried(index=3, story=STORY, cellar=CELLAR), [-1, 0])
        self.assertEqual(road(index=3, lot=-1, story=STORY, cellar=CELLAR), [2, 3])
        self.assertEqual(road(CELLAR, STORY, 0, 3), [3])
        self.assertIsNone(road(CELLAR, STORY, -3, 3))
        self.assertIsNone(road(CELLAR, STORY + (("add", 0, RED),), 4, 1))
        self.assertIs(road_holds(value=[2, 3], index=3, lot=-1, story=STORY, cellar=CELLAR), True)
        self.assertEqual(lots(((),), ()), [])
        for share, ends in ((NONE, [0]), (HALF, [0, 1]), (ALL, [1])):
            self.assertEqual(touched(CELLAR, (("move", 0, 1, share),), -1), ends)
            self.assertEqual(touched(CELLAR, (("swap", 0, 1, share),), -1), ends)
            self.assertEqual(touched(CELLAR, (("swap", 1, 0, share),), -1), ends)
            self.assertEqual(touched(CELLAR, (("draw", 0, share),), -1), [] if share == ALL else [0])
            self.assertEqual(touched(CELLAR, (("keep", 0, share),), -1), [] if share == NONE else [0])
            self.assertEqual(carried(CELLAR, (("draw", 0, share),), 0), [] if share == NONE else [-1])
            self.assertEqual(road(CELLAR, (("draw", 0, share),), -1, 0), None if share == NONE else [0])
            self.assertEqual(carried(CELLAR, (("draw", 1, share),), 0), [])
        # Wine may leave its cask and come back, and a road of any length holds.
        round_about = (("move", 0, 1, HALF), ("swap", 0, 1, HALF), ("draw", 0, HALF))
        self.assertEqual(road(CELLAR, round_about, -1, 2), [2])
        for value, wanted in (([2], True), ([0, 1, 2], True), ([0, 2], False), ([1, 2], False), ([0, 1], False),
            ([], False)):
            self.assertIs(road_holds(CELLAR, round_about, -1, 2, value), wanted, value)
        detour = (("move", 0, 1, HALF), ("move", 0, 2, ALL), ("move", 2, 1, HALF), ("draw", 1, HALF))
        self.assertEqual(road(CELLAR, detour, -1, 3), [0, 3])
        self.assertIs(road_holds(CELLAR, detour, -1, 3, [1, 2, 3]), True)
        emptied = (("move", 0, 1, HALF), ("draw", 0, ALL), ("swap", 1, 0, HALF), ("draw", 0, HALF))
        self.assertEqual(road(CELLAR, emptied, -1, 3), [0, 2, 3])
        self.assertIs(road_holds(CELLAR, emptied, -1, 3, [3]), False)

    def test_any_object_may_be_a_road(self):
        for value in NONE_OF_ANY + [(2, 3), [2, 2, 3], [3, 2], [True, 3], [2, 3, 3], [-1, 2, 3], ["2", 3], [2, None],
            [ECHO], [ODD, 3],
                [1, 3], [0, 2, 3], [2, 3, 4], [[2], 3], {2: 3}, [3], [2], [LONG, 3], [-LONG, 2, 3]]:
            with self.subTest(value=value):
                self.assertIs(road_holds(CELLAR, STORY, -1, 3, value), False)
        self.all_new(road, CELLAR, STORY, -1, 3)
        self.all_new(lots, CELLAR, STORY)
        self.all_new(touched, CELLAR, STORY, -1)
        self.all_new(carried, CELLAR, STORY, 3)
        self.all_new(suspects, CELLAR, STORY, ())

    def test_looks(self):
        draw, seen = drawing(312), {}
        for _ in range(500):
            casks = draw.randrange(1, 4)
            cellar = tuple(draw.choice([RED, RED, ()]) for _ in range(casks))
            story = []
            for deed in some_deeds(draw, casks, draw.randrange(9)):
                story.append(deed)
                if draw.random() < 0.5:
                    story.append(("draw", draw.randrange(casks), draw.choice([NONE, HALF, HALF, (1, 3)])))
            story = tuple(story)
            bads = carried_in(cellar, story)
            told = tuple((at, draw.random() < 0.5) for at in bads if draw.random() < 0.2)
            everything = inside_of(cellar, story)[0]
            fit = [lot for lot in everything if all((lot in bads[at]) == bad for at, bad in told)]
            self.assertEqual(suspects(cellar, story, told), fit)
            sets = list(bads.values())
            marks = [tuple(lot in bads_there for bads_there in sets) for lot in fit]
            depth = None if len(set(marks)) < len(marks) else least_depth(fit, sets)
            self.assertEqual(looks(cellar, story, told), depth)
            self.check_tree(look_tree(cellar, story, told), depth, fit, bads)
            seen[depth] = seen.get(depth, 0) + (1 if fit else 0)
        self.assertGreater(min(seen.get(depth, 0) for depth in (None, 0, 1, 2)), 10, seen)

    def check_tree(self, tree, depth, fit, bads):
        """Check that a tree tells apart all that fit by just so many looks."""
        if depth is None or not fit:
            self.assertIsNone(tree)
            return
        found, deep = leaves(tree, fit, bads)
        self.assertEqual(deep, depth)
        self.assertEqual(sorted(lot for lot, _ in found), fit)
        for lot, reached in found:
            self.assertEqual(reached, [lot])

    def test_looks_at_the_edges(self):
        self.assertEqual(suspects(told=((1, True), (1, False)), story=STORY, cellar=CELLAR), [])
        self.assertEqual(looks(CELLAR, STORY, ((1, True), (1, False))), 0)
        self.assertIsNone(look_tree(CELLAR, STORY, ((1, True), (1, False))))
        self.assertEqual(look_tree(told=((1, True), (1, True)), story=STORY, cellar=CELLAR), ("is", -1))
        self.assertEqual(looks(told=((1, True),), story=STORY, cellar=CELLAR), 0)
        self.assertEqual(looks(CELLAR, STORY, ()), 2)
        twins = (("move", 0, 1, HALF), ("move", 2, 1, HALF), ("draw", 1, HALF))
        self.assertEqual(suspects(CELLAR, twins, ((2, True),)), [-3, -1])
        self.assertIsNone(looks(CELLAR, twins, ((2, True),)))
        self.assertIsNone(look_tree(CELLAR, twins, ((2, True),)))
        self.assertEqual(looks(((),), (), ()), 0)
        self.assertEqual(looks((RED,), (), ()), 0)
        self.assertIsNone(looks((RED, RED), (), ()))

    def test_at_the_limits(self):
        draw, far = drawing(313), 10**30
        cellar = tuple(fill(a=far + cask) for cask in range(8))
        story = [("add", 0, RED), ("add", 1, RED)] + [("draw", at % 8, (1, far)) for at in range(10)]
        for at in range(12):
            story.insert(draw.randrange(2, len(story)), ("move", *draw.sample(range(8), 2), (far, far + 1)))
        story = tuple(story)
        depth = looks(cellar, story, ())
        found, deep = leaves(look_tree(cellar, story, ()) or ("is", 0), lots(cellar, story), carried_in(cellar, story))
        self.assertEqual(deep, depth or 0)
        spread = tuple(("draw", at % 8, HALF) for at in range(9)) + (("add", 0, RED), ("add", 1, RED),
            ("draw", 0, HALF))
        # The last draw parts two lots from eight, each of which but one is carried by a draw of its own alone.
        self.assertEqual(looks(cellar, spread[:8], ()), 7)
        self.assertEqual(looks(cellar, spread, ()), 8)


class Refusals(Case, unittest.TestCase):
    CALLS = [(lots, ()), (touched, (None,)), (carried, (9,)), (road, (None, 9)), (road_holds, (None, 9, None)),
        (suspects, (None,)),
        (looks, (None,)), (look_tree, (None,))]

    def test_cellars_and_stories(self):
        for function, more in self.CALLS:
            for value in NO_CELLARS:
                self.refused(InvalidCellar, value, function, value, None, *more)
            for value in NO_ENTRIES:
                with self.subTest(value=value):
                    self.refused(BadStory, 0, function, CELLAR, (value,), *more)
                    self.refused(BadStory, 2, function, CELLAR, STORY[:2] + (value, None), *more)
            for value in NONE_OF_ANY + [[], list(STORY), {0: STORY[0]}]:
                self.refused(BadStory, 0 if isinstance(value, tuple) else value, function, CELLAR, value, *more)

    def test_lots_and_draws(self):
        for value in NO_LOTS:
            with self.subTest(value=value):
                self.refused(BadLot, value, touched, CELLAR, STORY, value)
                self.refused(BadLot, value, road, CELLAR, STORY, value, 9)
                self.refused(BadLot, value, road_holds, CELLAR, STORY, value, 9, None)
        self.refused(BadLot, 0, touched, CELLAR, (("add", 0, ()),), 0)
        for index in (-1, -3, 0, 2, 4, 10**50, -(10**50)):
            self.refused(BadStory, index, carried, CELLAR, STORY, index)
            self.refused(BadStory, index, road, CELLAR, STORY, -1, index)
            self.refused(BadStory, index, road_holds, CELLAR, STORY, -1, index, [index])

    def test_told(self):
        for function in (suspects, looks, look_tree):
            for value in NO_TOLD:
                with self.subTest(value=value):
                    self.refused(BadTold, value, function, CELLAR, STORY, value)
            self.refused(BadTold, ((1, True), (0, True)), function, CELLAR, STORY, ((1, True), (0, True)))


if __name__ == "__main__":
    unittest.main()
