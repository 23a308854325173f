import unittest
from fractions import Fraction

from caskyears.errors import BadStory, BadTold, InvalidCellar, InvalidFraction
from caskyears.toldback import pair_of_looks, shares_that_fit, telling_glass, with_share
from tests.helper import ECHO, LONG, NONE_OF_ANY, ODD, Case, drawing, fill, number, pair, pairs, some_cellar
from tests.test_deeds import NO_DEEDS, model, some_deeds, work
from tests.test_fills import NO_CELLARS
from tests.test_fractions import NO_FRACTIONS

HALF = (1, 2)
CELLAR = (fill(red=4), fill(white=2), ())
GAP = ("move", 0, 1, None)
GAPS = [GAP, ("swap", 0, 1, None), ("draw", 0, None), ("keep", 0, None)]
NO_GAPS = NONE_OF_ANY + [
    (), (("move", 0, 1, HALF),), (GAP, GAP), (GAP, ("draw", 0, None)), [GAP], (list(GAP),), (("add", 0, None),),
    (("move", 0, None),),
    (("move", 0, 0, None),), (("move", 0, 1, HALF, None),), (("draw", 0, 1, None),), (("draw", None),),
    (("keep", -1, None),),
    (("move", 0, True, None),), (("move", None, 1, None),), (("move", 0, None, HALF),), (("swap", 0, 1, ()),),
    (("Draw", 0, None),),
    (("season", None),), ((None, 0, None),), ((ECHO, 0, None),), (("move", 0, 1, ECHO),), ((ODD, 0, 1, None),),
    ("move", 0, 1, None),
    ((b"draw", 0, None),), {0: GAP}, (("draw", 0, (3, 2)),), ((["draw"], 0, None),), (("draw", "0", None),),
] + [(GAP, value) for value in NO_DEEDS if not (isinstance(value, tuple) and value and value[-1] is None)]
FAR_GAPS = [(("move", 0, 3, None),), (("draw", 3, None),), (GAP, ("draw", 3, HALF)), (("add", 10**50, ()), GAP)]
LOOK = (0, "red", HALF)
NO_LOOKS = NONE_OF_ANY + [
    [], [LOOK], LOOK, (list(LOOK),), (LOOK, None), ((0, "red"),), (LOOK + (HALF,),), ((3, "red", HALF),),
    ((-1, "red", HALF),),
    ((True, "red", HALF),), ((0, "Red", HALF),), ((0, "", HALF),), ((0, None, HALF),), ((0, b"red", HALF),),
    ((0, "red", (3, 2)),),
    ((0, "red", (-1, 2)),), ((0, "red", (2, 4)),), ((0, "red", 1),), ((0, "red", None),), ((0, "red", [1, 2]),),
    ((ECHO, "red", HALF),),
    ((0, ECHO, HALF),), ((0, "red", ECHO),), {0: LOOK},
]


def fills_with(cellar, story, share):
    """Return the list of dicts behind a story with a share in the gap, worked kind by kind."""
    casks = model(cellar)
    for entry in story:
        casks = work(casks, entry[:-1] + (pair(share),) if entry[-1] is None else entry)[0]
    return casks


def is_right(cellar, story, looks, share):
    """Return whether all casks of the looks are not empty, and all looks right, with a share."""
    casks = fills_with(cellar, story, share)
    for cask, kind, told in looks:
        whole = sum(casks[cask].values(), Fraction(0))
        if not whole or casks[cask].get(kind, Fraction(0)) != whole * number(told):
            return False
    return True


def some_gap_story(draw, casks, many):
    """Return a story with one gap."""
    story = some_deeds(draw, casks, many)
    word = draw.choice(["move", "swap", "draw", "keep"] if casks > 1 else ["draw", "keep"])
    places = draw.sample(range(casks), 2 if word in ("move", "swap") else 1)
    story.insert(draw.randrange(len(story) + 1), (word, *places, None))
    return tuple(story)


SOME = [Fraction(at, 12) for at in range(13)] + [Fraction(1, 7), Fraction(5, 11), Fraction(1, LONG)]


class Gaps(Case, unittest.TestCase):
    def test_with_share(self):
        for gap in GAPS:
            for share in pairs(0, 1, Fraction(1, 2), Fraction(LONG - 1, LONG)):
                story = (("add", 1, ()), gap, ("draw", 10**50, HALF))
                self.assertEqual(with_share(story, share), (story[0], gap[:-1] + (share,), story[2]))
        self.assertEqual(with_share(share=HALF, story=(GAP,)), (("move", 0, 1, HALF),))

    def test_shares_that_fit(self):
        draw, seen = drawing(401), {"all": 0, "none": 0, "one": 0, "but": 0}
        for at in range(600):
            casks = 1 + at % 3
            cellar, story = some_cellar(draw, casks, kinds=["red", "white"]), some_gap_story(draw, casks,
                draw.randrange(5))
            hidden, looks = draw.choice(SOME), []
            for _ in range(draw.randrange(4)):
                cask, kind = draw.randrange(casks), draw.choice(["red", "white", "b"])
                inside = fills_with(cellar, story, hidden)[cask]
                whole = sum(inside.values(), Fraction(0))
                share = inside.get(kind,
                    Fraction(0)) / whole if whole and draw.random() < 0.8 else Fraction(draw.randrange(3), 2)
                looks.append((cask, kind, pair(share)))
            looks = tuple(looks)
            found = shares_that_fit(cellar, story, looks)
            self.check_fit(cellar, story, looks, found)
            self.check_pair(cellar, story, looks, found)
            seen[found[0]] += 1
        self.assertGreater(min(seen.values()), 30, seen)

    def check_fit(self, cellar, story, looks, found):
        """Check what is told of the shares, by many shares and those that are told."""
        right = [share for share in SOME if is_right(cellar, story, looks, share)]
        if found == ("all",):
            self.assertEqual(right, SOME)
        elif found == ("none",):
            self.assertEqual(right, [])
        elif found[0] == "one":
            self.assertEqual(len(found), 2)
            self.assertTrue(is_right(cellar, story, looks, number(found[1])))
            self.assertLessEqual(set(right), {number(found[1])})
        else:
            self.assertEqual([len(found), found[0]], [2, "but"])
            self.assertTrue(found[1] and isinstance(found[1], tuple))
            missing = [share for share in sorted(SOME) if share not in right]
            self.assertEqual(found[1], pairs(*missing))

    def check_pair(self, cellar, story, looks, found):
        """Check the one look or the two that no share fits."""
        two = pair_of_looks(cellar, story, looks)
        if found != ("none",):
            self.assertIsNone(two)
            return
        self.assertIsInstance(two, tuple)
        self.assertIn(len(two), (1, 2))
        self.assertEqual(list(two), sorted(set(two)))
        self.assertTrue(all(0 <= at < len(looks) for at in two))
        self.assertEqual(shares_that_fit(cellar, story, tuple(looks[at] for at in two)), ("none",))

    def test_edges(self):
        self.assertEqual(shares_that_fit(looks=(), story=(GAP,), cellar=CELLAR), ("all",))
        self.assertIsNone(pair_of_looks(looks=(), story=(GAP,), cellar=CELLAR))
        red = (0, "red", (1, 1))
        self.assertEqual(shares_that_fit(CELLAR, (GAP,), (red,)), ("but", ((1, 1),)))
        self.assertEqual(shares_that_fit(CELLAR, (("draw", 0, None),), (red,)), ("but", ((1, 1),)))
        self.assertEqual(shares_that_fit(CELLAR, (("keep", 0, None),), (red,)), ("but", ((0, 1),)))
        self.assertEqual(shares_that_fit(CELLAR, (("swap", 0, 1, None),), (red,)), ("one", (0, 1)))
        both = (("move", 0, 2, None),)
        self.assertEqual(shares_that_fit(CELLAR, both, (red, (2, "red", (1, 1)))), ("but", ((0, 1), (1, 1))))
        self.assertEqual(shares_that_fit(CELLAR, (GAP,), ((2, "red", HALF),)), ("none",))
        self.assertEqual(pair_of_looks(CELLAR, (GAP,), (red, (2, "red", HALF))), (1,))
        told = (1, "red", HALF)
        self.assertEqual(shares_that_fit(CELLAR, (GAP,), (told,)), ("one", HALF))
        self.assertEqual(shares_that_fit(CELLAR, (GAP,), (told, red)), ("one", HALF))
        self.assertEqual(pair_of_looks(CELLAR, (GAP,), (told, (1, "white", (1, 3)))), (0, 1))
        # The one share that is right leaves the other cask empty.
        self.assertEqual(shares_that_fit(CELLAR, (GAP,), ((1, "red", (2, 3)), red)), ("none",))
        self.assertEqual(pair_of_looks(CELLAR, (GAP,), ((1, "red", (2, 3)), red)), (0, 1))
        # A share above 1 would be right.
        self.assertEqual(shares_that_fit(CELLAR, (GAP,), ((1, "red", (3, 4)),)), ("none",))

    def test_telling_glasses(self):
        draw, seen = drawing(402), {True: 0, False: 0}
        for at in range(250):
            casks = 1 + at % 3
            cellar, story = some_cellar(draw, casks, kinds=["red", "white"]), some_gap_story(draw, casks,
                draw.randrange(5))
            kinds = sorted({kind for inside in cellar for kind, _ in inside}
                | {kind for entry in story if entry[0] == "add" for kind, _ in entry[2]})
            wanted = None
            for cask in range(casks):
                for kind in kinds:
                    shares = []
                    for share in SOME:
                        inside = fills_with(cellar, story, share)[cask]
                        if sum(inside.values()):
                            shares.append(inside.get(kind, Fraction(0)) / sum(inside.values()))
                    if wanted is None and len(shares) > 1 and len(set(shares)) == len(shares):
                        wanted = (cask, kind)
            self.assertEqual(telling_glass(cellar, story), wanted)
            seen[wanted is None] += 1
        self.assertGreater(min(seen.values()), 40, seen)
        self.assertEqual(telling_glass(story=(GAP,), cellar=CELLAR), (1, "red"))
        self.assertIsNone(telling_glass(CELLAR, (("draw", 0, None),)))
        self.assertEqual(telling_glass(((),), (("draw", 0, None), ("add", 0, fill(a=1)))), None)
        self.assertEqual(telling_glass((fill(b=1),), (("draw", 0, None), ("add", 0, fill(a=1)))), (0, "a"))

    def test_at_the_limits(self):
        draw, far = drawing(403), 10**30
        cellar = tuple(fill(**{kind: Fraction(draw.randrange(1, far), draw.randrange(1, far))
            for kind in "abcdefghijkl"}) for _ in range(8))
        story = [("swap", *draw.sample(range(8), 2), pair(Fraction(draw.randrange(far), far + 7))) for _ in range(23)]
        story.insert(3, ("swap", 0, 1, None))
        hidden = Fraction(far // 3, far + 1)
        casks = fills_with(cellar, story, hidden)
        looks = tuple((cask, "a", pair(casks[cask]["a"] / sum(casks[cask].values()))) for cask in range(8))
        self.assertEqual(shares_that_fit(cellar, tuple(story), looks), ("one", pair(hidden)))
        self.assertEqual(shares_that_fit(cellar, tuple(story), looks + ((0, "a", HALF),)), ("none",))


class Refusals(Case, unittest.TestCase):
    def test_stories(self):
        for value in NO_GAPS:
            with self.subTest(value=value):
                self.refused(BadStory, value, with_share, value, None)
                self.refused(BadStory, value, shares_that_fit, CELLAR, value, None)
                self.refused(BadStory, value, pair_of_looks, CELLAR, value, None)
                self.refused(BadStory, value, telling_glass, CELLAR, value)
        for value in FAR_GAPS:
            self.assertEqual(len(with_share(value, HALF)), len(value))
            self.refused(BadStory, value, shares_that_fit, CELLAR, value, None)
            self.refused(BadStory, value, pair_of_looks, CELLAR, value, None)
            self.refused(BadStory, value, telling_glass, CELLAR, value)

    def test_others(self):
        for value in NO_CELLARS:
            self.refused(InvalidCellar, value, shares_that_fit, value, None, None)
            self.refused(InvalidCellar, value, pair_of_looks, value, None, None)
            self.refused(InvalidCellar, value, telling_glass, value, None)
        for value in NO_FRACTIONS + [(3, 2), (-1, 2), (LONG, LONG - 1)]:
            self.refused(InvalidFraction, value, with_share, (GAP,), value)
        for value in NO_LOOKS:
            with self.subTest(value=value):
                self.refused(BadTold, value, shares_that_fit, CELLAR, (GAP,), value)
                self.refused(BadTold, value, pair_of_looks, CELLAR, (GAP,), value)


if __name__ == "__main__":
    unittest.main()
