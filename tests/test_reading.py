import re
import unittest

from caskyears.deeds import is_deed
from caskyears.errors import Unreadable
from caskyears.fills import is_cellar, is_fill
from caskyears.fractions import is_fraction
from caskyears.reading import read_cellar, read_deeds, read_fill, read_fraction, read_row, read_table, read_yearly
from caskyears.rows import is_row
from caskyears.tables import is_table
from caskyears.texts import show_cellar, show_deeds, show_fill, show_fraction, show_row, show_table, show_yearly
from caskyears.yearly import is_yearly
from tests.helper import LONG, LONGER, NONE_OF_ANY, Case, drawing, fill, pair, pairs, some_cellar, some_row, some_table
from tests.helper import some_yearly, table
from tests.test_deeds import DEEDS, some_deeds
from tests.test_fractions import NUMBERS
from tests.test_rows import ROWS
from tests.test_yearly import EVERY

NUMBER = r"(?:0|-?[1-9][0-9]{0,39})(?:/(?:[2-9]|[1-9][0-9]{1,39}))?"
CASK = r"(?:0|[1-9][0-9]{0,39})"
FILL = rf"(?:-|[a-z]{{1,8}} {NUMBER}(?:, [a-z]{{1,8}} {NUMBER})*)"
DEED = rf"(?:(?:move|swap) {CASK} {CASK} {NUMBER}|(?:draw|keep) {CASK} {NUMBER}|add {CASK} {FILL})"
ROW = rf"{NUMBER}(?: {NUMBER})*"
TABLE = rf"{ROW}(?:; {ROW})*"
READERS = {
    "fraction": (read_fraction, show_fraction, NUMBER), "fill": (read_fill, show_fill, FILL),
    "cellar": (read_cellar, show_cellar, rf"{FILL}(?: \| {FILL})*"),
    "deeds": (read_deeds, show_deeds, rf"(?:-|{DEED}(?:; {DEED})*)"), "table": (read_table, show_table, TABLE),
    "row": (read_row, show_row, ROW), "yearly": (read_yearly, show_yearly, rf"{TABLE} / {ROW} / {ROW}"),
}
FUNCTIONS = [entry[0] for entry in READERS.values()]


def fraction_in(text):
    """Return the tuple of the integers of a number that is written as the document tells."""
    above, _, below = text.partition("/")
    return int(above), int(below or 1)


def fill_in(text):
    """Return the tuple of the parts of a fill."""
    return () if text == "-" else tuple(
        (part.split(" ")[0], fraction_in(part.split(" ")[1])) for part in text.split(", "))


def numbers_in(text):
    """Return the tuple of numbers with blanks between."""
    return tuple(fraction_in(part) for part in text.split(" "))


def said(kind, text):
    """Return what a text says that has the form of the kind, None if this is not an object of the kind."""
    if kind == "fraction":
        value, fits = fraction_in(text), is_fraction
    elif kind == "fill":
        value, fits = fill_in(text), is_fill
    elif kind == "cellar":
        value, fits = tuple(fill_in(part) for part in text.split(" | ")), is_cellar
    elif kind == "table":
        value, fits = tuple(numbers_in(part) for part in text.split("; ")), is_table
    elif kind == "row":
        value, fits = numbers_in(text), is_row
    elif kind == "yearly":
        rows, into, tap = text.split(" / ")
        value, fits = (said("table", rows), numbers_in(into), numbers_in(tap)), is_yearly
    else:
        value, fits = deeds_in(text), lambda deeds: all(map(is_deed, deeds))
    return value if fits(value) else None


def deeds_in(text):
    """Return the tuple of deeds."""
    found = []
    for part in text.split("; ") if text != "-" else []:
        word, rest = part.split(" ", 1)
        if word == "add":
            found.append((word, int(rest.split(" ")[0]), fill_in(rest.split(" ", 1)[1])))
        else:
            words = rest.split(" ")
            found.append((word, *map(int, words[:-1]), fraction_in(words[-1])))
    return tuple(found)


OBJECTS = {
    "fraction": [pair(entry) for entry in NUMBERS],
    "fill": [(), fill(a=1), fill(red=LONG, white=1), fill(abcdefgh=LONGER, b=3)],
    "cellar": [((),), ((),) * 8, (fill(red=1), (), fill(a=2, b=3))] + [some_cellar(drawing(161), n) for n in (2, 5, 8)],
    "deeds": [(), tuple(DEEDS[:8]), tuple(some_deeds(drawing(162), 4, 12)), (DEEDS[6],), (DEEDS[7], DEEDS[6])],
    "table": [table([0]), table([1, 0], [0, 1])] + [some_table(drawing(163), casks) for casks in (1, 2, 5, 8)],
    "row": ROWS + [some_row(drawing(164), many) for many in range(1, 7)],
    "yearly": EVERY + [some_yearly(drawing(165), casks) for casks in (1, 2, 4, 8)],
}
SMALL = {
    "fraction": ["0", "7", "-3/2", "10/21"], "fill": ["-", "red 3, white 1/2"], "cellar": ["-", "a 1 | - | b 1/3, c 2"],
    "deeds": ["-", "move 0 1 1/2; add 1 a 1, b 2", "keep 10 0; add 0 -", "swap 1 0 1"],
    "table": ["0", "1/2 0; 1/2 1"], "row": ["1", "1/2 1/3"], "yearly": ["1/2 / 1 / 1/3", "1/2 0; 0 1 / 5 0 / 0 1"],
}


class BothWays(Case, unittest.TestCase):
    def test_texts_of_objects(self):
        for kind, values in OBJECTS.items():
            read, show, form = READERS[kind]
            for value in values:
                with self.subTest(kind=kind, value=value):
                    text = show(value)
                    self.assertTrue(re.fullmatch(form, text))
                    self.assertEqual(read(text), value)
                    self.assertEqual(read(text=text), said(kind, text))

    def test_texts_with_one_change(self):
        signs = " \n\t-+/|;,.0123459azA~"
        for kind, texts in SMALL.items():
            read = 0
            for text in texts:
                changed = {text[:at] + text[at + 1:] for at in range(len(text))}
                changed |= {text[:at] + sign + text[at:] for at in range(len(text) + 1) for sign in signs}
                changed |= {text[:at] + sign + text[at + 1:] for at in range(len(text)) for sign in signs}
                read += sum([self.check(kind, entry) for entry in sorted(changed)])
            self.assertGreater(read, 10, kind)

    def test_texts_with_parts_in_another_order(self):
        draw = drawing(166)
        for kind, texts in SMALL.items():
            for text in texts:
                for _ in range(60):
                    words = re.split(r"( )", text)
                    draw.shuffle(words)
                    self.check(kind, "".join(words))
                    one, other = sorted([draw.randrange(len(text) + 1), draw.randrange(len(text) + 1)])
                    self.check(kind, text[:other] + text[one:])

    def check(self, kind, text):
        """Check what is read in a text by its form and by what it would say; return whether it is read."""
        read, show, form = READERS[kind]
        wanted = said(kind, text) if re.fullmatch(form, text) else None
        if wanted is None:
            self.refused(Unreadable, text, read, text)
            return False
        self.assertEqual(read(text), wanted, text)
        self.assertEqual(show(wanted), text)
        return True


class Edges(Case, unittest.TestCase):
    def test_long_integers(self):
        forty, more = "9" * 40, "1" + "0" * 40
        self.assertEqual(read_fraction(forty), (LONGER, 1))
        self.assertEqual(read_fraction("-" + forty), (-LONGER, 1))
        self.assertEqual(read_fraction("1/" + forty), (1, LONGER))
        self.assertEqual(read_fill("a " + forty), (("a", (LONGER, 1)),))
        self.assertEqual(read_deeds("draw " + forty + " 1"), (("draw", LONGER, (1, 1)),))
        for function, text in [
            (read_fraction, more), (read_fraction, "-" + more), (read_fraction, "1/" + more), (read_fill, "a " + more),
            (read_cellar, "- | a 1/" + more), (read_deeds, "draw " + more + " 1"), (read_deeds, "draw 0 1/" + more),
            (read_deeds, "add 0 a " + more), (read_table, "1/" + more), (read_row, "1/" + more),
            (read_yearly, "0 / " + more + " / 0"), (read_fraction, "1" * 5000), (read_fraction, "0" * 40 + "1"),
            (read_fraction, "1/" + "1" * 5000), (read_deeds, "move " + "1" * 5000 + " 0 1"),
        ]:
            self.refused(Unreadable, text, function, text)

    def test_what_looks_alike(self):
        for text in ["01", "-0", "+1", "1/1", "2/4", "1/0", "1/-2", "--1", "1 / 2", "1/2/3", "0/1", "1.5", "1_0", "",
                " 1", "1 ", "1\n", "/2", "1/", "0x1", "\u0661", "\u00b2", "1/\u0662", "one", "-", "1,2"]:
            self.refused(Unreadable, text, read_fraction, text)
        for text in ["", "red", "red 0", "red -1", "red 1,white 1", "red 1, red 2", "white 1, red 1", "Red 1", "- ",
                "--", "abcdefghi 1", "red  1", "red 1, ", "red 1;", "-, -", "r\u00e9d 1", "red 1/2 ", " -", "red 1, -"]:
            self.refused(Unreadable, text, read_fill, text)
        for text in ["", "-|-", "- |-", "- | ", " | ".join("-" * 9), "red 1 | white", "- ; -"]:
            self.refused(Unreadable, text, read_cellar, text)
        for text in ["", "move 0 0 1", "move 0 1 2", "move 0 1", "move 00 1 1", "move -1 0 1", "draw 0 1 1", "add 0",
                "add 0 ", "add 0  -", "draw 0 1;", "draw 0 1;draw 0 1", "-; draw 0 1", "draw 0 1; -", "Draw 0 1",
                "pour 0 1 1", "add 0 - -", "keep 0 3/2", "swap 1 1 1/2", "add -1 -", "add 0 red 0"]:
            self.refused(Unreadable, text, read_deeds, text)
        for text in ["", "1 0", "1; 1", "1 1; 1 1", "1 0; 0", "-1", "2", "1 0;0 1", "1 0; 0 1; ",
                "; ".join(["0 " * 8 + "0"] * 9)]:
            self.refused(Unreadable, text, read_table, text)
        for text in ["", "0", "1/2 0", "2", "-1/2", "1  1", "1 1 1 1 1 1 1", "1; 1", "1/2,1/2"]:
            self.refused(Unreadable, text, read_row, text)
        for text in ["", "1", "1 / 1", "1 / 1 / 1 / 1", "1 / 1 / 2", "1 / -1 / 1", "2 / 1 / 1", "1 / 1 1 / 1",
                "1/ 1 / 1", "1 /1 / 1", "1 0; 0 1 / 1 / 1", "1 / 1; 1 / 1", " / 1 / 1", "1 /  / 1"]:
            self.refused(Unreadable, text, read_yearly, text)

    def test_objects_that_are_no_texts(self):
        for value in NONE_OF_ANY + [["1"], ("1",), b"1", (1, 2), [[1], (2, [3])], {"1": [1]}]:
            with self.subTest(value=value):
                for function in FUNCTIONS:
                    self.refused(Unreadable, value, function, value)
        self.refused(Unreadable, None, read_row, text=None)

    def test_texts_of_other_kinds(self):
        self.assertEqual(read_fill("-"), ())
        self.assertEqual(read_deeds("-"), ())
        self.assertEqual(read_cellar("-"), ((),))
        for function in (read_fraction, read_table, read_row, read_yearly):
            self.refused(Unreadable, "-", function, "-")
        self.assertEqual([read_fraction("1"), read_table("1"), read_row("1")], [(1, 1), (((1, 1),),), ((1, 1),)])
        self.assertEqual(read_yearly("1 / 1 / 1"), (table([1]), pairs(1), pairs(1)))


if __name__ == "__main__":
    unittest.main()
