import unittest
from fractions import Fraction

from caskyears.errors import InvalidCellar, InvalidDeed, InvalidFill, InvalidFraction, InvalidRow, InvalidTable
from caskyears.errors import InvalidYearly
from caskyears.texts import show_cellar, show_deeds, show_fill, show_fraction, show_row, show_table, show_yearly
from tests.helper import LONG, LONGER, Case, drawing, fill, number, pair, pairs, some_cellar, some_recipe, some_row
from tests.helper import some_table, some_yearly, table
from tests.test_deeds import DEEDS, NO_DEEDS, some_deeds
from tests.test_fills import NO_CELLARS, NO_FILLS
from tests.test_fractions import NO_FRACTIONS, NUMBERS
from tests.test_rows import NO_ROWS, ROWS
from tests.test_tables import NO_TABLES
from tests.test_yearly import EVERY, NO_YEARLY

HALF = (1, 2)


def written(numbers):
    """Return fractions of the package with blanks between, as Python writes its own."""
    return " ".join(str(number(entry)) for entry in numbers)


def written_fill(inside):
    """Return the text of a fill."""
    return ", ".join(kind + " " + str(number(much)) for kind, much in inside) or "-"


def written_table(rows):
    """Return the text of a table."""
    return "; ".join(written(row) for row in rows)


class Texts(unittest.TestCase):
    def test_fractions(self):
        for entry in NUMBERS:
            self.assertEqual(show_fraction(pair(entry)), str(entry))
        self.assertEqual(show_fraction(fraction=(-3, 2)), "-3/2")
        self.assertEqual([show_fraction((0, 1)), show_fraction((7, 1)), show_fraction((-7, 1))], ["0", "7", "-7"])
        self.assertEqual(show_fraction((LONG, LONGER)), "1" + "0" * 38 + "7/" + "9" * 40)

    def test_fills_and_cellars(self):
        draw = drawing(151)
        for cellar in [some_cellar(draw, casks, kinds=["a", "red", "white"]) for casks in range(1, 9)]:
            for inside in cellar:
                self.assertEqual(show_fill(inside), written_fill(inside))
            self.assertEqual(show_cellar(cellar), " | ".join(written_fill(inside) for inside in cellar))
        self.assertEqual(show_fill(()), "-")
        self.assertEqual(show_fill(fill=fill(abcdefgh=Fraction(1, 3), z=2)), "abcdefgh 1/3, z 2")
        self.assertEqual(show_cellar(cellar=((),) * 8), " | ".join("-" * 8))

    def test_deeds(self):
        self.assertEqual(show_deeds(deeds=DEEDS[4:8]), "draw 0 1; keep 1 0; add 0 -; add 1 red 4")
        self.assertEqual(show_deeds(tuple(DEEDS[:4])), "move 0 1 1/2; move 1 0 0; swap 0 1 1; swap 7 3 1/2")
        self.assertEqual([show_deeds([]), show_deeds(())], ["-", "-"])
        self.assertEqual(show_deeds([("add", 2, fill(a=1, b=Fraction(1, 2)))]), "add 2 a 1, b 1/2")
        self.assertEqual(show_deeds([("draw", 10**39, pair(Fraction(LONG, LONGER)))]),
            "draw 1" + "0" * 39 + " " + str(Fraction(LONG, LONGER)))
        draw = drawing(152)
        for many in range(1, 12):
            recipe = some_recipe(draw, 3, many)
            wanted = [" ".join([deed[0], *map(str, deed[1:-1]), str(number(deed[-1]))]) for deed in recipe]
            self.assertEqual(show_deeds(recipe), "; ".join(wanted))
            self.assertEqual(show_deeds(list(recipe)), "; ".join(wanted))

    def test_tables_rows_and_yearly_cellars(self):
        draw = drawing(153)
        for casks in range(1, 9):
            rows, yearly = some_table(draw, casks), some_yearly(draw, casks)
            self.assertEqual(show_table(rows), written_table(rows))
            self.assertEqual(show_yearly(yearly),
                written_table(yearly[0]) + " / " + written(yearly[1]) + " / " + written(yearly[2]))
        for row in ROWS + [some_row(draw, many) for many in range(1, 7)]:
            self.assertEqual(show_row(row), written(row))
        self.assertEqual(show_table(table=table([Fraction(1, 2), 0], [0, 1])), "1/2 0; 0 1")
        self.assertEqual(show_row(row=pairs(1, Fraction(1, 3))), "1 1/3")
        self.assertEqual(show_yearly(yearly=(table([1]), pairs(Fraction(5, 2)), pairs(0))), "1 / 5/2 / 0")
        self.assertEqual(show_yearly(EVERY[8]), "0 1; 1 0 / 1 0 / 0 1/5")


class Refusals(Case, unittest.TestCase):
    def test_what_has_no_text(self):
        for values, error, function in [
            (NO_FRACTIONS, InvalidFraction, show_fraction), (NO_FILLS, InvalidFill, show_fill),
            (NO_CELLARS, InvalidCellar, show_cellar), (NO_TABLES, InvalidTable, show_table),
            (NO_ROWS, InvalidRow, show_row), (NO_YEARLY, InvalidYearly, show_yearly),
        ]:
            for value in values:
                with self.subTest(value=value, function=function.__name__):
                    self.refused(error, value, function, value)

    def test_deeds(self):
        for value in NO_DEEDS:
            with self.subTest(value=value):
                self.refused(InvalidDeed, value, show_deeds, [DEEDS[0], value, None])
                self.refused(InvalidDeed, value, show_deeds, (value, []))
        self.refused(InvalidDeed, ["draw", 0, HALF], show_deeds, deeds=some_deeds(drawing(1), 2, 3)
            + [["draw", 0, HALF]])


if __name__ == "__main__":
    unittest.main()
