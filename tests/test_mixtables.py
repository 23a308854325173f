import unittest
from fractions import Fraction
from itertools import product as choices

from caskyears.errors import InvalidCellar, Unlike
from caskyears.evenness import is_more_even
from caskyears.mixtables import prices_against, prices_hold, table_to, table_to_holds
from caskyears.recipes import worked
from caskyears.tables import is_table, still
from tests.helper import LONG, LONGER, NONE_OF_ANY, Case, amounts_of, drawing, fill, matrix, number, pair, pairs, table
from tests.helper import unit
from tests.test_fills import NO_CELLARS
from tests.test_tables import NO_TABLES

RED, WHITE, BOTH = fill(red=2), fill(white=2), fill(red=1, white=1)


def keeping_table(draw, sizes):
    """Return a table without loss that leaves each cask as full as it was, of exchanges between two casks."""
    rows = unit(len(sizes))
    for _ in range(draw.randrange(6)):
        first, second = draw.sample(range(len(sizes)), 2) if len(sizes) > 1 else (0, 0)
        if first != second and sizes[first] and sizes[second]:
            much = min(sizes[first], sizes[second]) * Fraction(draw.randrange(4), 3)
            out, back = much / sizes[first], much / sizes[second]
            one = [(1 - out) * x + back * y for x, y in zip(rows[first], rows[second])]
            rows[second] = [out * x + (1 - back) * y for x, y in zip(rows[first], rows[second])]
            rows[first] = one
    return table(*rows)


def full(draw, sizes, kinds):
    """Return a cellar with these sizes."""
    fills = []
    for size in sizes:
        parts = [draw.randrange(4) for _ in kinds]
        parts[draw.randrange(len(kinds))] += 1
        inside = {kind: Fraction(part) * size / sum(parts) for kind, part in zip(kinds, parts)}
        fills.append(fill(**{kind: much for kind, much in inside.items() if much}))
    return tuple(fills)


def worth(cellar, prices):
    """Return what a cellar is worth by prices of kinds that are told as dicts, a wish each."""
    result = Fraction(0)
    for inside in cellar:
        result += max(sum(wish[kind] * number(much) for kind, much in inside) for wish in prices)
    return result


class Tables(Case, unittest.TestCase):
    def check(self, one, other):
        """Check that there is a table or that there are prices; return whether there is one."""
        made, prices = table_to(one, other), prices_against(one, other)
        self.assertIs(made is None, prices is not None)
        if made is not None:
            self.assertTrue(is_table(made))
            self.assertEqual([sum(column) for column in zip(*matrix(made))], [1] * len(one))
            for kind in ("a", "b", "c", "d", "red", "white"):
                behind = [sum(x * y for x, y in zip(row, amounts_of(one, kind))) for row in matrix(made)]
                self.assertEqual(behind, amounts_of(other, kind))
            self.assertIs(table_to_holds(one, other, made), True)
            return True
        kinds = sorted({kind for inside in one + other for kind, _ in inside})
        self.assertIs(type(prices), list)
        self.assertTrue(1 <= len(prices) <= 8 and all(type(wish) is list and len(wish) == len(kinds)
            for wish in prices))
        told = [dict(zip(kinds, [number(price) for price in wish])) for wish in prices]
        self.assertGreater(worth(other, told), worth(one, told))
        self.assertIs(prices_hold(one, other, prices), True)
        self.all_new(prices_against, one, other)
        return False

    def test_what_tables_lead_to(self):
        draw = drawing(101)
        for casks in [1, 2, 3, 4, 5] * 6:
            kinds = "abcd"[: draw.randrange(1, 5)]
            sizes = [Fraction(draw.randrange(1, 5), draw.randrange(1, 3)) * draw.choice([0, 1, 1, 1])
                for _ in range(casks)]
            one = full(draw, sizes, kinds)
            other = worked(keeping_table(draw, sizes), one)
            self.assertIs(self.check(one, other), True)
            back = self.check(other, one)
            if sorted(one) == sorted(other):
                self.assertIs(back, True)

    def test_what_it_does_not_lead_to(self):
        draw = drawing(102)
        told = {True: 0, False: 0}
        for casks in [2, 3, 4] * 12:
            sizes = [Fraction(draw.randrange(1, 4)) for _ in range(casks)]
            told[self.check(full(draw, sizes, "abc"), full(draw, sizes, "abc"))] += 1
        self.assertGreater(told[False], 20)

    def test_two_kinds_in_like_casks_are_amounts_of_one(self):
        told = {True: 0, False: 0}
        every = list(choices(range(4), repeat=3))
        for one in every[::3]:
            for other in every[::5]:
                cellars = [tuple(fill(**{k: x for k, x in (("a", some), ("b", 3 - some)) if x}) for some in amounts)
                    for amounts in (one, other)]
                can = is_more_even(pairs(*one), pairs(*other))
                self.assertIs(self.check(*cellars), can)
                told[can] += 1
        self.assertGreater(min(told.values()), 10)

    def test_edges(self):
        self.assertIs(self.check(((),), ((),)), True)
        self.assertIs(self.check(((),) * 5, ((),) * 5), True)
        self.assertIs(self.check((RED, ()), (RED, ())), True)
        self.assertIs(self.check((RED, WHITE), (WHITE, RED)), True)
        self.assertIs(self.check((BOTH, BOTH), (RED, WHITE)), False)
        self.assertIs(self.check((RED,), (WHITE,)), False)
        self.assertIs(self.check((RED, RED), (RED, WHITE)), False)
        long = Fraction(LONG, LONGER)
        one = (fill(a=long, b=1 - long), fill(c=Fraction(1, LONG), d=1 - Fraction(1, LONG)))
        mean = fill(a=long / 2, b=(1 - long) / 2, c=Fraction(1, 2 * LONG), d=(1 - Fraction(1, LONG)) / 2)
        self.assertIs(self.check(one, (mean, mean)), True)
        self.assertIs(self.check((mean, mean), one), False)
        self.assertEqual(table_to(other=(WHITE, RED), one=(RED, WHITE)), table([0, 1], [1, 0]))

    def test_five_casks_of_four_kinds(self):
        draw = drawing(103)
        sizes = [Fraction(12)] * 5
        one = full(draw, sizes, "abcd")
        evened = tuple(worked(table(*[[Fraction(1, 5)] * 5] * 5), one))
        self.assertIs(self.check(one, evened), True)
        self.assertIs(self.check(evened, one), False)
        self.assertIs(self.check(one, one[::-1]), True)

    def test_what_tables_hold(self):
        half = Fraction(1, 2)
        for value, holds in [
            (table([half, half], [half, half]), True), (still(2), False), (table([half, half], [half, 0]), False),
            (still(3), False),
            ([[(1, 2), (1, 2)]] * 2, False), (table([1]), False),
            (table([Fraction(1, 3), half], [Fraction(2, 3), half]), False),
        ]:
            self.assertIs(table_to_holds((RED, WHITE), (BOTH, BOTH), value), holds, value)
        self.assertIs(table_to_holds((RED, ()), (RED, ()), table([1, 0], [0, 0])), False,
            "nothing is lost but the table has loss")
        self.assertIs(table_to_holds((RED, ()), (RED, ()), table([1, 1], [0, 0])), True)
        self.assertIs(table_to_holds(value=still(1), other=(RED,), one=(RED,)), True)
        for value in NO_TABLES:
            self.assertIs(table_to_holds((RED, WHITE), (RED, WHITE), value), False, value)
            self.assertIs(table_to_holds((RED,), (WHITE,), value), False, value)

    def test_what_prices_hold(self):
        one, none = (1, 1), (0, 1)
        good = [[one, none], [none, one]]
        for value, holds in [
            (good, True), (good * 4, True), (good * 4 + [[none, none]], False), (tuple(good), False),
            ([tuple(good[0]), good[1]], False),
            (good[:1], False), ([[one, one]], False), ([], False), ([[one], [none]], False),
            ([[one, none, none], [none, one, none]], False),
            ([[one, none], [none, (2, 2)]], False), ([[one, none], [none, 1]], False),
            ([[(-1, 1), none], [none, (-1, 1)]], True),
            ([[one, none], None], False), ([[none, none], [one, (-1, 1)]], True),
            ([[none, none], [(-1, 1), (-1, 1)]], False),
        ]:
            self.assertIs(prices_hold((BOTH, BOTH), (RED, WHITE), value), holds, value)
            self.assertIs(prices_hold((RED, WHITE), (BOTH, BOTH), value), False, value)
        self.assertIs(prices_hold(value=[[one, none]], other=(RED,), one=(WHITE,)), True)
        self.assertIs(prices_hold(value=[[none, one]], other=(RED,), one=(WHITE,)), False)
        self.assertIs(prices_hold(((),), ((),), [[]]), False)
        self.assertIs(prices_against(other=((),), one=((),)), None)
        for value in NONE_OF_ANY:
            self.assertIs(prices_hold((BOTH, BOTH), (RED, WHITE), value), False, value)


class Refusals(Case, unittest.TestCase):
    def test_all(self):
        for function, further in [(table_to, ()), (table_to_holds, (None,)), (prices_against, ()),
            (prices_hold, (None,))]:
            for value in NO_CELLARS:
                with self.subTest(function=function.__name__, value=value):
                    self.refused(InvalidCellar, value, function, value, None, *further)
                    self.refused(InvalidCellar, value, function, (RED, WHITE), value, *further)
            self.refused(Unlike, 3, function, (RED, WHITE), (RED, WHITE, ()), *further)
            self.refused(Unlike, 1, function, (RED, WHITE), (fill(red=1),), *further)
            self.refused(Unlike, 1, function, (RED, WHITE, ()), (WHITE, fill(red=1), RED), *further)
            self.refused(Unlike, 0, function, ((), RED), (RED, ()), *further)
            self.refused(Unlike, 2, function, (RED, WHITE, RED), (RED, WHITE, fill(red=2 + Fraction(1, LONGER))),
                *further)


if __name__ == "__main__":
    unittest.main()
