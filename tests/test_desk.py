import unittest
from fractions import Fraction

from caskyears.cellarbooks import show_book
from caskyears.desk import Desk
from caskyears.errors import BadCask, BadCommand, BadLot, BadText, BadWeather, InvalidDeed, NoBlock, Nothing, NotReady
from caskyears.livecellar import Cellar
from caskyears.texts import show_fill, show_fraction
from caskyears.traces import lots, touched
from tests.helper import ECHO, NONE_OF_ANY, ODD, Case, drawing, fill, number, pair, some_cellar
from tests.test_cellarbooks import FILLS, NO_FIRST_LINES, NO_LINES, STORY, TEXT
from tests.test_deeds import some_deeds

HALF = (1, 2)
# These lines cannot stand in a text of two casks, but at the desk they are such as may be done.
ONLY_FAR = ["move 0 2 1/3", "keep 2 1", "add 2 -", "season 1", "season 1 1 1", "undo"]
NO_COMMANDS = [line for line in NO_LINES if line not in ONLY_FAR] + [
    "load", "load ", "Load\n-\n", " load\n-\n", "load -\n", "load\r\n-\n", "undo ", " undo", "undo 1", "undo\n", "Undo",
    "cask", "cask ", "cask 0 ",
    "cask  0", "cask 0 1", "cask 00", "cask +0", "cask -0", "cask 0.0", "cask a", "cask\t0", "cask " + "1" * 41,
    "cask -" + "1" * 41, "casks 0",
    "left 0", "left ", "born 1", "born\n", "size", "size x", "size 1/2", "size 0 0", "glass", "glass red", "glass -",
    "begin 0", "begin ", "keep ",
    "keep 0", "keep\n", "drop 1", "drop\n", "touched", "touched ", "touched a", "touched 0 0", "touched --1",
    "touched 1/2", "entries ",
    "entries 0", "draw 0 1\n", "cask 0\n", "draw 0 1\nundo", "season 1 1\n", "fills", "do draw 0 1", "year 1", "twin",
    "", "\n", "\nload",
    "touched " + "1" * 41, "season " + "1 " * 3, "cask \u0661",
]
READY = ["undo", "left", "born", "begin", "keep", "drop", "entries", "cask 0", "size 0", "glass 0", "touched -1",
    "draw 0 1", "move 0 9 1",
    "season 1 1", "season 1", "cask -7", "touched 99", "keep 0 1", "add 0 -"]


class Desks(Case, unittest.TestCase):
    def loaded(self, text="red 6 | -\n"):
        """Return a desk with a cellar."""
        desk = Desk()
        self.assertEqual(desk.execute("load\n" + text), "ok")
        return desk

    def told(self, desk, casks=2):
        """Return all that a desk tells of its cellar."""
        numbers = [f"{word} {cask}" for word in ("cask", "size", "glass") for cask in range(casks)]
        return [desk.execute(line) for line in numbers + ["left", "born", "entries"]]

    def test_a_desk_does_as_a_living_cellar(self):
        draw = drawing(461)
        for at in range(40):
            casks = 1 + at % 3
            fills, cellar = some_cellar(draw, casks), None
            story = tuple(some_deeds(draw, casks, draw.randrange(4)))
            desk, cellar = self.loaded(show_book(fills, story)), Cellar(fills)
            for entry in story:
                cellar.do(entry)
            for _ in range(20):
                word = draw.choice(["do", "do", "season", "undo", "begin", "keep", "drop"])
                if word == "do":
                    deed = draw.choice(some_deeds(draw, casks, 2))
                    gone = cellar.do(deed)
                    line = show_book(fills, (deed,)).split("\n")[1]
                    self.assertEqual(desk.execute(line), show_fill(gone) if deed[0] in ("draw", "keep") else "ok")
                elif word == "season":
                    kept = tuple(pair(Fraction(draw.randrange(4), 3)) for _ in range(casks))
                    cellar.season(kept)
                    self.assertEqual(desk.execute("season " + " ".join(show_fraction(share) for share in kept)), "ok")
                else:
                    self.same(desk, cellar, word)
                self.compare(desk, cellar, fills)

    def same(self, desk, cellar, word):
        """Do what a word says at a desk and in a cellar, with the same errors."""
        try:
            told = getattr(cellar, word)()
        except (Nothing, NoBlock) as error:
            self.refused(type(error), None, desk.execute, word)
        else:
            self.assertEqual(desk.execute(word), told or "ok")

    def compare(self, desk, cellar, fills):
        """Check what a desk tells against a cellar."""
        for cask, inside in enumerate(cellar.fills):
            self.assertEqual(desk.execute(f"cask {cask}"), show_fill(inside))
            whole = sum((number(much) for _, much in inside), Fraction(0))
            self.assertEqual(desk.execute(f"size {cask}"), show_fraction(pair(whole)))
            shares = [f"{kind} {show_fraction(pair(number(much) / whole))}" for kind, much in inside]
            self.assertEqual(desk.execute(f"glass {cask}"), ", ".join(shares) or "-")
        self.assertEqual([desk.execute("left"), desk.execute("born")], [show_fill(cellar.left), show_fill(cellar.born)])
        self.assertEqual(desk.execute("entries"), str(len(cellar)))
        # A season does to the lots what a keep of each share does.
        plain, index = [], {}
        for at, entry in enumerate(cellar.story):
            index[len(plain)] = at
            kept = enumerate(entry[1]) if entry[0] == "season" else []
            plain += [("keep", cask, share) for cask, share in kept] or [entry]
        there = {}
        for lot in lots(fills, tuple(plain)):
            there[lot if lot < 0 else index[lot]] = touched(fills, tuple(plain), lot)
        for lot, casks in there.items():
            self.assertEqual(desk.execute(f"touched {lot}"), " ".join(map(str, casks)) or "-")
        for lot in set(range(-9, len(cellar) + 1)) - set(there):
            self.refused(BadLot, lot, desk.execute, f"touched {lot}")

    def test_load(self):
        desk = self.loaded(TEXT)
        self.assertEqual(desk.execute("entries"), "5")
        self.assertEqual([desk.execute("undo") for _ in range(5)], ["do", "do", "do", "season", "do"])
        self.refused(Nothing, None, desk.execute, "undo")
        self.assertEqual(desk.execute("begin"), "ok")
        self.assertEqual(desk.execute(line="load\n- | a 1\n"), "ok")
        self.assertEqual([desk.execute("cask 0"), desk.execute("cask 1"), desk.execute("touched -2")],
            ["-", "a 1", "1"])
        self.refused(NoBlock, None, desk.execute, "drop")
        self.refused(BadLot, -1, desk.execute, "touched -1")
        cellar = Cellar(FILLS)
        for entry in STORY:
            cellar.season(entry[1]) if entry[0] == "season" else cellar.do(entry)
        desk = self.loaded(TEXT)
        self.assertEqual(desk.execute("cask 0"), show_fill(cellar.fills[0]))

    def test_faulty_loads(self):
        for desk in (Desk(), self.loaded()):
            ahead = None if desk.execute.__self__._cellar is None else self.told(desk)
            for line in NO_LINES:
                self.refused(BadText, 1, desk.execute, "load\nred 6 | -\n" + line + "\n")
            for line in NO_FIRST_LINES:
                self.refused(BadText, 0, desk.execute, "load\n" + line + "\n")
            self.refused(BadText, 0, desk.execute, "load\n")
            self.refused(BadText, 0, desk.execute, "load\n-")
            self.refused(BadText, 0, desk.execute, "load\n\n-\n")
            self.refused(BadText, 1, desk.execute, "load\n-\ndraw 0 1")
            self.refused(BadText, 3, desk.execute, "load\n-\ndraw 0 1\ndraw 0 1\ndraw 1 1\n")
            if ahead is None:
                self.refused(NotReady, None, desk.execute, "entries")
            else:
                self.assertEqual(self.told(desk), ahead)

    def test_touched(self):
        desk = self.loaded("a 1 | b 1 | -\n")
        self.assertEqual([desk.execute(line) for line in ("touched -1", "touched -2", "move 0 1 1/2", "touched -1",
            "season 0 1/2 1",
            "touched -1", "add 2 c 1", "touched 2", "season 1 0 1", "touched -1", "touched -2", "touched 2",
            "add 0 -")],
            ["0", "1", "ok", "0 1", "ok", "1", "ok", "2", "ok", "-", "-", "2", "ok"])
        for lot in (-3, -4, 0, 1, 3, 4, 5, 10**39, -(10**39)):
            self.refused(BadLot, lot, desk.execute, f"touched {lot}")
        desk.execute("undo")
        desk.execute("undo")
        desk.execute("undo")
        self.refused(BadLot, 2, desk.execute, "touched 2")

    def test_lines_that_are_none(self):
        for desk in (Desk(), self.loaded()):
            for value in NO_COMMANDS + [entry for entry in NONE_OF_ANY + [(), ["undo"], ("undo",), b"undo", ODD, ECHO]
                if entry != "undo"]:
                with self.subTest(value=value):
                    self.refused(BadCommand, value, desk.execute, value)

    def test_a_desk_without_a_cellar(self):
        desk = Desk()
        for line in READY:
            self.refused(NotReady, None, desk.execute, line)
        self.refused(BadText, 0, desk.execute, "load\nno cellar\n")
        for line in READY:
            self.refused(NotReady, None, desk.execute, line)

    def test_errors_of_what_is_done(self):
        desk = self.loaded("red 6 | -\ndraw 0 1/2\n")
        desk.execute("begin")
        ahead = self.told(desk)
        for line, error, value in [
            ("move 0 2 1/3", InvalidDeed, ("move", 0, 2, (1, 3))), ("draw 7 1", InvalidDeed, ("draw", 7, (1, 1))),
            ("add 2 a 1", InvalidDeed, ("add", 2, fill(a=1))), ("keep 9 0", InvalidDeed, ("keep", 9, (0, 1))),
            ("season 1", BadWeather, ((1, 1),)), ("season 1 1/2 0", BadWeather, ((1, 1), HALF, (0, 1))),
            ("season " + " ".join(["1"] * 9), BadWeather, ((1, 1),) * 9), ("cask 2", BadCask, 2),
            ("cask -1", BadCask, -1),
            ("size 2", BadCask, 2), ("size -1", BadCask, -1), ("glass 9999999999", BadCask, 9999999999),
            ("glass -1", BadCask, -1),
            ("touched -2", BadLot, -2), ("touched 0", BadLot, 0), ("undo", Nothing, None),
            ("cask " + "9" * 40, BadCask, 10**40 - 1),
        ]:
            with self.subTest(line=line):
                self.refused(error, value, desk.execute, line)
                self.assertEqual(self.told(desk), ahead)
        self.assertEqual(desk.execute("keep"), "ok")
        self.refused(NoBlock, None, desk.execute, "keep")
        self.refused(NoBlock, None, desk.execute, "drop")
        self.assertEqual([self.told(desk), desk.execute("undo")], [ahead, "do"])

    def test_two_desks(self):
        one, other = self.loaded(), self.loaded()
        one.execute("draw 0 1")
        self.assertEqual([one.execute("size 0"), other.execute("size 0")], ["0", "6"])

    def test_at_the_limits(self):
        far = 10**30
        lines = ["a 1 | b 1/3"] + [f"move {at % 2} {1 - at % 2} {far - at}/{far + 1 + at % 7}" for at in range(700)]
        lines = [line for line in lines if self.is_lowest(line.split(" ")[-1])]
        desk = self.loaded("".join(line + "\n" for line in lines))
        told = desk.execute("cask 0")
        self.assertGreater(len(told), 4300 * 2)
        self.assertEqual(desk.execute("entries"), str(len(lines) - 1))
        for at in range(2000 - len(lines)):
            desk.execute("add 0 c 1/3" if at % 9 else "keep 0 1/2")
        self.assertEqual(desk.execute("touched -1"), "0 1")
        for _ in range(2000 - len(lines)):
            desk.execute("undo")
        self.assertEqual(desk.execute("cask 0"), told)

    def is_lowest(self, text):
        """Return whether a text of a share is one in lowest terms."""
        above, _, below = text.partition("/")
        return not below or Fraction(int(above), int(below)).denominator == int(below)


if __name__ == "__main__":
    unittest.main()
