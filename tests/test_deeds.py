import unittest
from fractions import Fraction

from caskyears.deeds import done, drawn, is_deed, lost, run
from caskyears.errors import InvalidCellar, InvalidDeed
from tests.helper import ECHO, LONG, LONGER, NONE_OF_ANY, ODD, Case, drawing, fill, number, pair, some_cellar
from tests.helper import some_recipe
from tests.test_fills import NO_CELLARS, NO_FILLS

HALF = (1, 2)
RED, WHITE = fill(red=4), fill(white=2)
NO_DEEDS = NONE_OF_ANY + [
    (), [], ["move", 0, 1, HALF], ("move", 0, 0, HALF), ("move", 0, 1), ("move", 0, 1, HALF, HALF), ("move", 0, HALF),
    ("move", -1, 0, HALF), ("move", 0, -1, HALF), ("move", True, 0, HALF), ("move", 0, True, HALF),
    ("move", 0, 1, (3, 2)),
    ("move", 0, 1, (-1, 2)), ("move", 0, 1, [1, 2]), ("move", 0, 1, (2, 4)), ("move", 0, 1, (True, 1)),
    ("move", 0, 1, None),
    ("move", None, 1, HALF), ("move", 0, "1", HALF), ("move", 0, 1, RED), ("swap", 1, 1, HALF), ("swap", 0, 1),
    ("swap", 0, HALF),
    ("swap", 0, 1, (LONGER, LONG)), ("swap", 0, [1], HALF), ("draw", 0), ("draw", 0, 1, HALF), ("draw", -1, HALF),
    ("draw", False, HALF), ("draw", 0, (2, 1)), ("draw", 0, 1), ("draw", 0, RED), ("keep", 0), ("keep", -1, HALF),
    ("keep", 0, (4, 3)),
    ("keep", 0, 1, HALF), ("keep", 0, None), ("add", 0), ("add", 0, HALF), ("add", -1, RED), ("add", 0, RED, RED),
    ("add", True, RED),
    ("add", 0, [RED]), ("add", 0, (("red", (0, 1)),)), ("add", 0, 1, HALF), ("add", 0, None), ("Move", 0, 1, HALF),
    ("pour", 0, 1, HALF),
    (b"move", 0, 1, HALF), (None, 0, 1, HALF), (["move"], 0, 1, HALF), ("mov", "e", 1, HALF), (ODD, 0, HALF),
    ({}, 0, HALF),
    (ECHO, 0, 1, HALF), (ECHO, 0, HALF), (ECHO, 0, RED), ("draw", 0, HALF, HALF), ("keep", 0, HALF, 1),
    ("pour", 0, RED),
    ("pour", 0, ()), ("", 0, HALF), "add", {"move": 0}, (0, "move", 1, HALF), ("draw", (1, 2), 0),
]
DEEDS = [
    ("move", 0, 1, HALF), ("move", 1, 0, (0, 1)), ("swap", 0, 1, (1, 1)), ("swap", 7, 3, HALF), ("draw", 0, (1, 1)),
    ("keep", 1, (0, 1)),
    ("add", 0, ()), ("add", 1, RED), ("move", 10**59, 0, (LONG, LONGER)), ("draw", 10**59, HALF),
]


def model(cellar):
    """Return a list of dicts of amounts by kinds."""
    return [{kind: number(much) for kind, much in inside} for inside in cellar]


def filled(casks):
    """Return the cellar of a list of dicts of amounts by kinds."""
    return tuple(fill(**{kind: much for kind, much in inside.items() if much}) for inside in casks)


def work(casks, deed):
    """Return the list of dicts behind a deed, worked kind by kind, and the dicts of what is drawn and lost."""
    kinds = {kind for inside in casks for kind in inside} | {"red", "white", "b"}
    casks = [{kind: inside.get(kind, Fraction(0)) for kind in kinds} for inside in casks]
    taken, gone = {}, {}
    word, first = deed[0], casks[deed[1]]
    for kind in sorted(kinds):
        if word == "add":
            first[kind] += sum(number(much) for name, much in deed[2] if name == kind)
        elif word == "draw":
            taken[kind] = first[kind] * number(deed[2])
            first[kind] -= taken[kind]
        elif word == "keep":
            gone[kind] = first[kind] - first[kind] * number(deed[2])
            first[kind] -= gone[kind]
        else:
            second, share = casks[deed[2]], number(deed[3])
            goes, comes = first[kind] * share, second[kind] * share if word == "swap" else 0
            first[kind] += comes - goes
            second[kind] += goes - comes
    return casks, taken, gone


def some_deeds(draw, casks, many):
    """Return a list of deeds, adds among them."""
    deeds = []
    for deed in some_recipe(draw, casks, many):
        deeds.append(deed)
        if draw.random() < 0.3:
            deeds.append(("add", draw.randrange(casks), some_cellar(draw, 1, ["red", "white", "b"])[0]))
    return deeds


class Kinds(unittest.TestCase):
    def test_deeds(self):
        for value in DEEDS:
            self.assertIs(is_deed(value), True, value)
        for value in NO_DEEDS:
            self.assertIs(is_deed(value), False, value)
        for value in NO_FILLS:
            self.assertIs(is_deed(("add", 0, value)), False, value)
        self.assertIs(is_deed(value=DEEDS[0]), True)


class Working(Case, unittest.TestCase):
    def test_each_deed(self):
        red, white = fill(red=4), fill(white=2)
        for deed, behind in [
            (("move", 0, 1, (1, 4)), (fill(red=3), fill(red=1, white=2))),
            (("move", 0, 1, (0, 1)), (red, white)),
            (("move", 0, 1, (1, 1)), ((), fill(red=4, white=2))),
            (("move", 1, 0, HALF), (fill(red=4, white=1), fill(white=1))),
            (("swap", 0, 1, HALF), (fill(red=2, white=1), fill(red=2, white=1))),
            (("swap", 1, 0, (1, 4)), (fill(red=3, white=Fraction(1, 2)), fill(red=1, white=Fraction(3, 2)))),
            (("swap", 0, 1, (1, 1)), (white, red)),
            (("swap", 0, 1, (0, 1)), (red, white)),
            (("draw", 0, (1, 4)), (fill(red=3), white)),
            (("draw", 1, (1, 1)), (red, ())),
            (("draw", 1, (0, 1)), (red, white)),
            (("keep", 0, (1, 4)), (fill(red=1), white)),
            (("keep", 0, (0, 1)), ((), white)),
            (("keep", 0, (1, 1)), (red, white)),
            (("add", 0, white), (fill(red=4, white=2), white)),
            (("add", 1, ()), (red, white)),
        ]:
            self.assertEqual(done((red, white), deed), behind, deed)
        self.assertEqual(done(deed=("add", 0, red), cellar=((),)), (red,))
        self.assertEqual(done(((), ()), ("move", 0, 1, HALF)), ((), ()))

    def test_runs(self):
        draw = drawing(21)
        for casks in [1, 2, 3, 8] * 4:
            cellar, deeds = some_cellar(draw, casks, ["red", "white", "b"]), some_deeds(draw, casks, 12)
            states, taken, gone = [model(cellar)], {}, {}
            for deed in deeds:
                behind, out, away = work(states[-1], deed)
                states.append(behind)
                for sums, some in ((taken, out), (gone, away)):
                    for kind, much in some.items():
                        sums[kind] = sums.get(kind, 0) + much
            stages = run(cellar, deeds)
            self.assertEqual(stages, [filled(state) for state in states])
            self.assertEqual(drawn(cellar, deeds), filled([taken])[0])
            self.assertEqual(lost(cellar, deeds), filled([gone])[0])
            self.assertEqual(done(stages[-2], deeds[-1]), stages[-1])

    def test_no_deeds(self):
        self.assertEqual(run((RED, ()), []), [(RED, ())])
        self.assertEqual(drawn((RED,), []), ())
        self.assertEqual(lost((RED,), []), ())

    def test_drawn_and_lost(self):
        deeds = [("draw", 0, (1, 4)), ("keep", 0, (1, 3)), ("draw", 1, (1, 1)), ("add", 1, WHITE), ("keep", 1, HALF)]
        self.assertEqual(drawn(deeds=deeds, cellar=(RED, WHITE)), fill(red=1, white=2))
        self.assertEqual(lost(deeds=deeds, cellar=(RED, WHITE)), fill(red=2, white=1))
        self.assertEqual(run(deeds=deeds, cellar=(RED, WHITE))[-1], (fill(red=1), fill(white=1)))

    def test_long_shares(self):
        share = Fraction(LONG, LONGER)
        deeds = [("keep", 0, pair(share))] * 40
        self.assertEqual(run((RED,), deeds)[-1], (fill(red=4 * share**40),))
        self.assertEqual(lost((RED,), deeds), fill(red=4 - 4 * share**40))

    def test_what_is_returned_is_new(self):
        self.all_new(run, (RED, WHITE), [("swap", 0, 1, HALF)])


class Refusals(Case, unittest.TestCase):
    def test_cellars(self):
        for value in NO_CELLARS:
            with self.subTest(value=value):
                self.refused(InvalidCellar, value, done, value, None)
                for function in (run, drawn, lost):
                    self.refused(InvalidCellar, value, function, value, [None])

    def test_deeds(self):
        others = [("move", 0, 2, HALF), ("move", 2, 0, HALF), ("swap", 5, 1, HALF), ("swap", 1, 2, HALF),
            ("draw", 2, HALF)]
        others += [("keep", 2, HALF), ("add", 2, RED), ("add", 10**59, ())]
        for value in NO_DEEDS + others:
            with self.subTest(value=value):
                self.refused(InvalidDeed, value, done, (RED, WHITE), value)
                for function in (run, drawn, lost):
                    self.refused(InvalidDeed, value, function, (RED, WHITE), [("draw", 0, HALF), value, None])
                    self.refused(InvalidDeed, value, function, deeds=[value], cellar=(RED, WHITE))

    def test_the_first_of_either_fault(self):
        self.refused(InvalidDeed, ("draw", 2, HALF), run, (RED, WHITE), [("draw", 2, HALF), None])
        self.refused(InvalidDeed, None, run, (RED, WHITE), [None, ("draw", 2, HALF)])

    def test_the_error_keeps_what_was_passed(self):
        deed = ["move", [0], 1]
        with self.assertRaises(InvalidDeed) as caught:
            done((RED, WHITE), deed)
        deed[1].append(1)
        self.assertEqual(caught.exception.value, ["move", [0], 1])


if __name__ == "__main__":
    unittest.main()
