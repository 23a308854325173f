import unittest
from fractions import Fraction
from itertools import product as choices

from caskyears.errors import BadCask, BadRule, BadStory, BadWeather, InvalidCellar, InvalidFill
from caskyears.seasons import amount_between, behind, keeps, share_between, size_within, weather_for
from tests.helper import ECHO, LONG, LONGER, NONE_OF_ANY, ODD, Case, amounts_of, drawing, fill, number, pair, pairs
from tests.helper import some_cellar
from tests.test_deeds import NO_DEEDS, model, some_deeds, work
from tests.test_fills import NO_CELLARS, NO_KINDS
from tests.test_labels import NO_RULES

HALF = (1, 2)
WHOLE = pairs(0, 1)
CELLAR = (fill(red=4), fill(white=4))
SEASON = ("season", (pairs(Fraction(1, 2), 1), WHOLE))
STORY = (SEASON, ("move", 0, 1, HALF))
NO_ENTRIES = [value for value in NO_DEEDS] + [
    ("season",), ("season", ()), ("season", (WHOLE,)), ("season", (WHOLE,) * 3), ("season", [WHOLE, WHOLE]),
    ["season", (WHOLE, WHOLE)], ("season", (WHOLE, list(WHOLE))), ("season", (WHOLE, None)), ("season", (WHOLE, HALF)),
    ("season", (WHOLE, pairs(1, Fraction(1, 2)))), ("season", (WHOLE, pairs(0, 2))), ("season", (WHOLE, pairs(-1, 0))),
    ("season", (WHOLE, ((0, 1),))), ("season", (WHOLE, ((0, 1), (2, 4)))), ("season", (WHOLE, ((0, 1), (True, 1)))),
    ("season", (WHOLE, WHOLE), HALF), ("Season", (WHOLE, WHOLE)), (ECHO, (WHOLE, WHOLE)), (b"season", (WHOLE, WHOLE)),
    ("season", None), ("season", ECHO), ("draw", 2, HALF), ("move", 0, 2, HALF), ("add", 2, ()), (ODD, (WHOLE, WHOLE)),
    ("season", (WHOLE, pairs(0, 1, 1))), ("season", (WHOLE, ((0, 1), [1, 1]))),
]
KEPT = (HALF, (0, 1))
NO_WEATHERS = NONE_OF_ANY + [
    (), KEPT, (KEPT, KEPT), [KEPT], (list(KEPT),), (KEPT + ((0, 1),),), (KEPT[:1],), (((1, 4), (0, 1)),),
    (((2, 1), (0, 1)),), ((HALF, (-1, 2)),), ((HALF, (2, 4)),), ((HALF, None),), ((HALF, [0, 1]),), (None,), (KEPT,
    None),
    ((HALF, (True, 1)),), {0: KEPT}, ((pair(Fraction(1, 2) - Fraction(1, LONGER)), (0, 1)),),
]


def worked(cellar, story, weather):
    """Return the list of dicts behind a story, worked kind by kind."""
    casks, seasons = model(cellar), list(weather)
    for entry in story:
        if entry[0] == "season":
            kept = [number(share) for share in seasons.pop(0)]
            casks = [{kind: much * share for kind, much in inside.items()} for inside, share in zip(casks, kept)]
        else:
            casks, _, _ = work(casks, entry)
    return casks


def some_story(draw, casks, seasons):
    """Return a story of some deeds and seasons, some of which may empty a cask."""
    story, ends = [], [Fraction(0), Fraction(1, 3), Fraction(1, 2), Fraction(1)]
    for at in range(seasons + 1):
        story += some_deeds(draw, casks, draw.randrange(3))
        if at < seasons:
            spans = [sorted([draw.choice(ends), draw.choice(ends)]) for _ in range(casks)]
            story.append(("season", tuple(pairs(*span) for span in spans)))
    return tuple(story)


def grid(story):
    """Return a list of weathers: of lows, highs and what is between."""
    spans = [[sorted({low, pair((number(low) + 2 * number(high)) / 3), high}) for low, high in entry[1]]
        for entry in story if entry[0] == "season"]
    return list(choices(*[list(choices(*season)) for season in spans]))


SHAPES = [(1, 0), (2, 0), (1, 1), (2, 1), (1, 2), (1, 3), (3, 1), (2, 2)]
KINDS = ("red", "white", "b")


class Weathers(Case, unittest.TestCase):
    def test_behind(self):
        draw = drawing(201)
        for casks, seasons in SHAPES * 4:
            cellar, story = some_cellar(draw, casks, kinds=KINDS), some_story(draw, casks, seasons)
            for weather in grid(story)[:12]:
                wanted = worked(cellar, story, weather)
                self.assertEqual(behind(cellar, story, weather),
                    tuple(fill(**{kind: much for kind, much in inside.items() if much}) for inside in wanted))
        self.assertEqual(behind(weather=((HALF, (0, 1)),), story=STORY, cellar=CELLAR), (fill(red=1), fill(red=1)))
        self.assertEqual(behind(CELLAR, (), ()), CELLAR)

    def test_between(self):
        draw = drawing(202)
        seen = {"none": 0, "one": 0, "more": 0}
        for casks, seasons in SHAPES * 12:
            cellar, story = some_cellar(draw, casks, kinds=KINDS), some_story(draw, casks, seasons)
            weathers = grid(story)
            ends = [worked(cellar, story, weather) for weather in weathers]
            for cask in range(casks):
                kind = draw.choice(KINDS + ("z",))
                seen[self.check(cellar, story, cask, kind, [end[cask] for end in ends])] += 1
        self.assertGreater(min(seen.values()), 10, seen)

    def check(self, cellar, story, cask, kind, inside):
        """Check the ends of amount, size and share by going through a grid of weathers; return how many shares."""
        amounts = [end.get(kind, Fraction(0)) for end in inside]
        wholes = [sum(end.values(), Fraction(0)) for end in inside]
        self.assertEqual(amount_between(cellar, story, cask, kind), pairs(min(amounts), max(amounts)))
        self.assertEqual(size_within(cellar, story, cask), pairs(min(wholes), max(wholes)))
        shares = [much / whole for much, whole in zip(amounts, wholes) if whole]
        found = share_between(cellar, story, cask, kind)
        if not shares:
            self.assertIsNone(found)
            self.assertIsNone(weather_for(cellar, story, cask, kind, True))
            self.assertIsNone(weather_for(cellar, story, cask, kind, False))
            self.assertIs(keeps(cellar, story, cask, ((kind,), "least", (1, 1))), True)
            return "none"
        self.assertEqual(found, pairs(min(shares), max(shares)))
        for greatest in (False, True):
            weather = weather_for(cellar, story, cask, kind, greatest)
            end = worked(cellar, story, weather)[cask]
            self.assertEqual(pair(end.get(kind, Fraction(0)) / sum(end.values())), found[greatest])
            self.assertEqual(number(dict(behind(cellar, story, weather)[cask]).get(kind, (0, 1))), end.get(kind, 0))
        self.check_rules(cellar, story, cask, inside, kind)
        return "one" if found[0] == found[1] else "more"

    def check_rules(self, cellar, story, cask, inside, kind):
        """Check rules of one kind and of two by a grid of weathers."""
        for kinds in ((kind,), tuple(sorted({kind, "b"}))):
            full = [end for end in inside if any(end.values())]
            shares = [sum(end.get(name, 0) for name in kinds) / sum(end.values()) for end in full]
            least, most, bit = min(shares), max(shares), Fraction(1, 999)
            for share in {least, most, Fraction(1, 2), min(1, least + bit), max(0, most - bit)}:
                self.assertIs(keeps(cellar, story, cask, (kinds, "least", pair(share))), least >= share)
                self.assertIs(keeps(cellar, story, cask, (kinds, "most", pair(share))), most <= share)

    def test_casks_that_are_empty_in_some_weathers(self):
        emptied = (("season", (WHOLE, WHOLE)),)
        self.assertEqual(share_between(CELLAR, emptied, 0, "red"), pairs(1, 1))
        self.assertEqual(amount_between(CELLAR, emptied, 0, "red"), pairs(0, 4))
        self.assertEqual(size_within(cask=1, story=emptied, cellar=CELLAR), pairs(0, 4))
        mixed = emptied + (("move", 0, 1, (1, 1)),)
        self.assertEqual(share_between(kind="red", cask=1, story=mixed, cellar=CELLAR), pairs(0, 1))
        self.assertIsNone(share_between(CELLAR, mixed, 0, "red"))
        self.assertIs(keeps(rule=(("red",), "least", (1, 1)), cask=0, story=mixed, cellar=CELLAR), True)
        self.assertIs(keeps(CELLAR, mixed, 1, (("red",), "least", (1, LONG))), False)
        never = (("season", (pairs(0, 0), WHOLE)),)
        self.assertIsNone(share_between(CELLAR, never, 0, "red"))
        self.assertEqual(amount_between(kind="red", cask=0, story=never, cellar=CELLAR), pairs(0, 0))
        self.assertEqual(share_between(CELLAR, never + (("add", 0, fill(z=1)),), 0, "z"), pairs(1, 1))
        found = weather_for(CELLAR, mixed, 1, "red", True)
        self.assertEqual(behind(CELLAR, mixed, found)[1][0][0], "red")
        self.assertEqual(weather_for(greatest=False, kind="red", cask=1, story=STORY[:1], cellar=CELLAR)[0][1], (1, 1))

    def test_no_seasons(self):
        self.assertEqual(share_between(CELLAR, (), 0, "white"), pairs(0, 0))
        self.assertEqual(weather_for(CELLAR, (), 0, "white", True), ())
        self.assertIs(keeps(CELLAR, (), 0, (("red",), "least", (1, 1))), True)
        self.assertIsNone(share_between(((),), (), 0, "red"))

    def test_at_the_limits(self):
        draw = drawing(203)
        far = 10**30
        for casks, seasons in ((2, 4), (3, 3), (5, 2), (8, 1)):
            cellar = tuple(fill(**{kind: Fraction(draw.randrange(1, far), draw.randrange(1, far))
                for kind in "abcdefghijkl"}) for _ in range(casks))
            story = []
            for at in range(seasons):
                lows = [Fraction(draw.randrange(far), 2 * far) for _ in range(casks)]
                story.append(("season", tuple(pairs(low, low + Fraction(1, 3)) for low in lows)))
                for _ in range(24 // seasons - 1):
                    one, other = draw.sample(range(casks), 2)
                    story.append(("move", one, other, pair(Fraction(draw.randrange(far), far + 7))))
            story = tuple(story)
            least, most = share_between(cellar, story, 0, "a")
            self.assertLess(number(least), number(most))
            for greatest, wanted in ((False, least), (True, most)):
                inside = behind(cellar, story, weather_for(cellar, story, 0, "a", greatest))
                whole = sum(number(much) for _, much in inside[0])
                self.assertEqual(amounts_of(inside, "a")[0] / whole, number(wanted))
            self.assertIs(keeps(cellar, story, 0, (("a",), "least", least)), True)


class Refusals(Case, unittest.TestCase):
    CALLS = [
        (behind, ("bad",)), (amount_between, (-1, "BAD")), (size_within, (-1,)), (share_between, (-1, "BAD")),
        (weather_for, (-1, "BAD", True)), (keeps, (-1, None)),
    ]

    def test_cellars_and_stories(self):
        for function, more in self.CALLS:
            for value in NO_CELLARS:
                with self.subTest(value=value):
                    self.refused(InvalidCellar, value, function, value, None, *more)
            for value in NO_ENTRIES:
                with self.subTest(value=value):
                    self.refused(BadStory, 0, function, CELLAR, (value,), *more)
                    self.refused(BadStory, 1, function, CELLAR, (SEASON, value, None), *more)
            for value in NONE_OF_ANY + [[], [SEASON], {0: SEASON}]:
                with self.subTest(value=value):
                    self.refused(BadStory, 0 if isinstance(value, tuple) else value, function, CELLAR, value, *more)

    def test_weathers(self):
        for value in NO_WEATHERS:
            with self.subTest(value=value):
                self.refused(BadWeather, value, behind, CELLAR, STORY, value)
        self.refused(BadWeather, (KEPT,), behind, weather=(KEPT,), story=(), cellar=CELLAR)

    def test_casks_kinds_and_rules(self):
        for function, more in self.CALLS[1:]:
            for cask in (-1, 2, 10**40, None, "0", [0], True):
                self.refused(BadCask, cask, function, CELLAR, STORY, cask, *more[1:])
        for kind in NO_KINDS:
            self.refused(InvalidFill, kind, amount_between, CELLAR, STORY, 0, kind)
            self.refused(InvalidFill, kind, share_between, CELLAR, STORY, 0, kind)
            self.refused(InvalidFill, kind, weather_for, CELLAR, STORY, 0, kind, True)
        for value in NO_RULES:
            with self.subTest(value=value):
                self.refused(BadRule, value, keeps, CELLAR, STORY, 0, value)


if __name__ == "__main__":
    unittest.main()
