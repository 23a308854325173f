import unittest
from fractions import Fraction

from caskyears.cellarbooks import read_book, show_book
from caskyears.errors import BadStory, BadText, InvalidCellar
from caskyears.texts import show_cellar, show_deeds
from tests.helper import ECHO, LONGER, NONE_OF_ANY, ODD, Case, drawing, fill, pair, some_cellar
from tests.test_deeds import NO_DEEDS, some_deeds
from tests.test_fills import NO_CELLARS
from tests.test_livecellar import KEPT, NO_KEPT, YEARLY

HALF = (1, 2)
FILLS = (fill(red=6), ())
STORY = (("move", 0, 1, (1, 3)), ("season", KEPT), ("add", 1, fill(b=2, white=Fraction(1, 2))), ("add", 0, ()),
    ("keep", 1, (0, 1)))
TEXT = "red 6 | -\nmove 0 1 1/3\nseason 1/2 1\nadd 1 b 2, white 1/2\nadd 0 -\nkeep 1 0\n"
NO_ENTRIES = NO_DEEDS + [
    ("year", YEARLY, "red"), ("draw", 2, HALF), ("move", 0, 2, HALF), ("add", 10**50, ()), ("season", KEPT, KEPT),
    ("season",),
    ["season", KEPT], ("Season", KEPT), (ECHO, KEPT), (b"season", KEPT), ("times", 1, ()),
    ("if", 0, (("a",), "least", HALF), (), ()),
] + [("season", kept) for kept in NO_KEPT]
NO_LINES = [
    "", " ", "-", "move 0 1 1/3 ", " move 0 1 1/3", "move 0  1 1/3", "move 0 1", "move 0 0 1/3", "move 0 1 2/6",
    "move 0 1 4/3", "move 0 1 -1/3",
    "move 00 1 1/3", "move +0 1 1/3", "move -0 1 1/3", "move 0 2 1/3", "move -1 0 1/3", "Move 0 1 1/3",
    "move 0 1 1/3; draw 0 1", "move 0 1 1/3;",
    "move\t0 1 1/3", "swap 0 1 0/1", "swap 0 1 1/1", "draw 0", "draw 0 1 1", "draw 0 01", "draw 0 1.0", "draw 0 ",
    "keep 2 1", "keep 0 red 1",
    "add 0", "add 0 ", "add 0 red", "add 0 red 0", "add 0 red -1", "add 0 white 1, red 1", "add 0 red 1,white 1",
    "add 0 red 1, red 1",
    "add 2 -", "add 0 red 1 | -", "season", "season ", "season 1", "season 1 1 1", "season 1 2", "season 1/2 1 ",
    "season  1/2 1", "season 1/2, 1",
    "season 1/2\t1", "season 2/4 1", "season 0 -1", "seasons 1/2 1", "year 1", "times 2 draw 0 1", "red 6 | -", "undo",
    "draw 0 1\r",
    "draw 0 1/" + "1" * 41, "draw " + "1" * 41 + " 1", "add 0 a " + "1" * 41, "season 1/" + "1" * 41 + " 1",
    "add 0 Red 1", "add 0 abcdefghi 1",
    "draw 0 \u0661", "season \u0661 1",
]
NO_FIRST_LINES = ["", " ", "red 6 |", "red 6|-", "red 6 | - ", " red 6", "red 0", "red", "6", "red 6/1", "red 6, ",
    "white 1, red 1", "red 06",
    "red +6", "red -6", " | ".join(["-"] * 9), "red " + "1" * 41, "- | ", "Red 6", "draw 0 1", "red 6 | - | ",
    "red 6\t| -", "load"]


class Books(Case, unittest.TestCase):
    def test_texts_both_ways(self):
        draw = drawing(451)
        for at in range(120):
            casks = 1 + at % 4
            fills, story = some_cellar(draw, casks), []
            for deed in some_deeds(draw, casks, draw.randrange(6)):
                story.append(deed)
                if draw.random() < 0.3:
                    story.append(("season", tuple(pair(Fraction(draw.randrange(4), 3)) for _ in range(casks))))
            lines = [show_cellar(fills)]
            for entry in story:
                shares = " ".join(str(above) if below == 1 else f"{above}/{below}" for above, below in entry[1]) \
                    if entry[0] == "season" else ""
                lines.append("season " + shares if shares else show_deeds([entry]))
            text = "".join(line + "\n" for line in lines)
            self.assertEqual(show_book(fills, tuple(story)), text)
            self.assertEqual(read_book(text), (fills, tuple(story)))
        self.assertEqual(show_book(story=STORY, fills=FILLS), TEXT)
        self.assertEqual(read_book(text=TEXT), (FILLS, STORY))
        self.assertEqual(show_book(((),), ()), "-\n")
        self.assertEqual(read_book("-\n"), (((),), ()))

    def test_faulty_lines(self):
        head = "red 6 | -\n"
        for line in NO_LINES:
            with self.subTest(line=line):
                self.refused(BadText, 1, read_book, head + line + "\n")
                self.refused(BadText, 1, read_book, head + line + "\n" + "no line")
                self.refused(BadText, 3, read_book, head + "draw 0 1\nseason 1 1\n" + line + "\ndraw 1 1\n")
        for line in NO_FIRST_LINES:
            with self.subTest(line=line):
                self.refused(BadText, 0, read_book, line + "\n")
                self.refused(BadText, 0, read_book, line + "\ndraw 0 1\nno line")
                self.refused(BadText, 0, read_book, line)

    def test_a_last_line_without_a_line_feed(self):
        self.refused(BadText, 0, read_book, "")
        self.refused(BadText, 0, read_book, "\n")
        self.refused(BadText, 0, read_book, "red 6 | -")
        self.refused(BadText, 1, read_book, "red 6 | -\ndraw 0 1")
        self.refused(BadText, 1, read_book, "red 6 | -\nno line")
        self.refused(BadText, 2, read_book, "red 6 | -\ndraw 0 1\nd")
        self.refused(BadText, 1, read_book, "red 6 | -\n\n")
        self.refused(BadText, 1, read_book, "red 6 | -\n\ndraw 0 1")
        self.refused(BadText, 5, read_book, TEXT[:-1])
        self.refused(BadText, 6, read_book, TEXT + " ")
        for value in NONE_OF_ANY + [(), [TEXT], TEXT.encode(), {TEXT: 1}, ODD]:
            if not isinstance(value, str):
                self.refused(BadText, 0, read_book, value)

    def test_long_integers(self):
        forty = str(LONGER)
        text = f"a {forty} | b 1/{forty}\ndraw 0 1/{forty}\nseason 1/{forty} 1\nadd 1 c {forty}/{LONGER - 1}\n"
        fills, story = read_book(text)
        self.assertEqual(fills, (fill(a=LONGER), fill(b=Fraction(1, LONGER))))
        self.assertEqual(story[1], ("season", ((1, LONGER), (1, 1))))
        self.assertEqual(show_book(fills, story), text)
        self.refused(BadText, 0, read_book, text.replace(forty, forty + "9"))
        self.refused(BadText, 2, read_book, text.replace(f"season 1/{forty}", f"season 1/{forty}1"))

    def test_at_the_limits(self):
        lines = ["a 1 | b 1/3 | -"] + ["move 0 1 1/3", "season 1/2 1 2/3", "add 2 c 5/7", "swap 1 2 1"] * 500
        text = "".join(line + "\n" for line in lines)
        fills, story = read_book(text)
        self.assertEqual(len(story), 2000)
        self.assertEqual(show_book(fills, story), text)
        self.refused(BadText, 2001, read_book, text + "draw 3 1\n")


class Refusals(Case, unittest.TestCase):
    def test_wrong_inputs(self):
        for value in NO_CELLARS:
            self.refused(InvalidCellar, value, show_book, value, None)
        for value in NO_ENTRIES:
            with self.subTest(value=value):
                self.refused(BadStory, 0, show_book, FILLS, (value,))
                self.refused(BadStory, 2, show_book, FILLS, STORY[:2] + (value, None))
        for value in NONE_OF_ANY + [[], list(STORY), {0: STORY[0]}]:
            self.refused(BadStory, 0 if isinstance(value, tuple) else value, show_book, FILLS, value)


if __name__ == "__main__":
    unittest.main()
