import unittest
from fractions import Fraction

from caskyears.bottlings import best_plan, best_worth, sheets, sheets_show, worth
from caskyears.errors import BadProducts, InvalidCellar, InvalidFraction
from tests.helper import ECHO, LONG, NONE_OF_ANY, ODD, Case, drawing, end_of_aim, fill, number, pair, pairs
from tests.helper import some_cellar
from tests.test_fills import NO_CELLARS
from tests.test_fractions import NO_FRACTIONS
from tests.test_labels import NO_RULES, some_rule

OLD = (("old",), "least", (1, 2))
CELLAR = (fill(old=4), fill(young=4))
PRODUCTS = (((OLD,), (3, 1), None), ((), (1, 1), None))
NO_PRODUCTS_INSIDE = NONE_OF_ANY + [
    (), ((OLD,), (3, 1)), ((OLD,), (3, 1), None, None), [(OLD,), (3, 1), None], ([OLD], (3, 1), None),
    (OLD, (3, 1), None),
    ((OLD,), (-1, 1), None), ((OLD,), (2, 4), None), ((OLD,), 3, None), ((OLD,), None, None), ((OLD,), (3, 1), (-1, 2)),
    ((OLD,), (3, 1), 0), ((OLD,), (3, 1), False), ((OLD,), (3, 1), [1, 2]), (None, (3, 1), None), ({}, (3, 1), None),
    ((OLD,), [3, 1], None), ((OLD,), (3, 1), ECHO), ((OLD,), ECHO, None), ((ECHO,), (3, 1), None),
] + [((OLD, rule), (3, 1), None) for rule in NO_RULES]
NO_SHEETS = NONE_OF_ANY + [
    (), (pairs(0, 0), pairs(0, 0)), [pairs(9, 9), pairs(0, 0), (pairs(0), ())],
    (pairs(9, 9), pairs(0, 0), (pairs(0), ()), ()),
    (list(pairs(9, 9)), pairs(0, 0), (pairs(0), ())), (pairs(9, 9), list(pairs(0, 0)), (pairs(0), ())),
    (pairs(9, 9), pairs(0, 0), [pairs(0), ()]), (pairs(9, 9), pairs(0, 0), (list(pairs(0)), ())),
    (pairs(9), pairs(0, 0), (pairs(0), ())), (pairs(9, 9, 0), pairs(0, 0), (pairs(0), ())),
    (pairs(9, 9), pairs(0), (pairs(0), ())), (pairs(9, 9), pairs(0, 0), (pairs(0),)),
    (pairs(9, 9), pairs(0, 0), ((), ())),
    (pairs(9, 9), pairs(0, 0), (pairs(0), pairs(0))), (pairs(9, 9), pairs(0, 1), (pairs(0), ())),
    (pairs(9, 9), pairs(0, -1), (pairs(0), ())), (pairs(9, 9), pairs(0, 0), (pairs(-1), ())),
    (pairs(9, -1), pairs(0, 0), (pairs(0), ())), (((9, 1), (18, 2)), pairs(0, 0), (pairs(0), ())),
    (((9, 1), 9), pairs(0, 0), (pairs(0), ())), (((9, 1), ECHO), pairs(0, 0), (pairs(0), ())),
    (pairs(9, 9), pairs(0, 0), (None, ())), (ECHO, ECHO, ECHO),
]


def rows_by_hand(cellar, products):
    """Return the rows of the amounts of all casks, empty ones too, and products, and what these are worth."""
    places = [(cask, at) for cask in range(len(cellar)) for at in range(len(products))]
    sizes = [sum((number(much) for _, much in inside), Fraction(0)) for inside in cellar]
    rows = [([-Fraction(place == here) for here in places], Fraction(0)) for place in places]
    rows += [([Fraction(cask == here) for cask, _ in places], sizes[here]) for here in range(len(cellar))]
    for product, (rules, _, most) in enumerate(products):
        if most is not None:
            rows.append(([Fraction(at == product) for _, at in places], number(most)))
        for kinds, sense, share in rules:
            factors = []
            for cask, at in places:
                part = sum((number(much) for kind, much in cellar[cask] if kind in kinds), Fraction(0))
                missing = number(share) - part / sizes[cask] if sizes[cask] else Fraction(0)
                factors.append((missing if sense == "least" else -missing) if at == product else Fraction(0))
            rows.append((factors, Fraction(0)))
    return places, rows, [number(products[at][1]) for _, at in places]


def worth_by_hand(cellar, products, plan):
    """Return what a plan is worth by the rows, None if it is not right."""
    places, rows, aim = rows_by_hand(cellar, products)
    amounts = {place: Fraction(0) for place in places}
    for cask, product, much in plan:
        amounts[(cask, product)] = number(much)
    point = [amounts[place] for place in places]
    if any(sum(x * y for x, y in zip(factors, point)) > bound for factors, bound in rows):
        return None
    return sum((x * y for x, y in zip(aim, point)), Fraction(0))


def some_products(draw, many, kinds):
    """Return products of small numbers, without rules and with some, without most, with most 0 and with others."""
    return tuple((
        tuple(some_rule(draw, kinds) for _ in range(draw.randrange(3))),
        pair(Fraction(draw.randrange(5), draw.randrange(1, 3))),
        draw.choice([None, None, (0, 1), pair(Fraction(draw.randrange(1, 9), 2))]),
    ) for _ in range(many))


def some_plan(draw, cellar, many):
    """Return a plan of small amounts."""
    places = [(cask, at) for cask in range(len(cellar)) for at in range(many)]
    chosen = sorted(draw.sample(places, draw.randrange(min(3, len(places)) + 1)))
    return tuple((*place, pair(Fraction(draw.randrange(1, 5), draw.randrange(1, 5)))) for place in chosen)


SHAPES = [(1, 1), (2, 1), (1, 2), (2, 2), (3, 1), (1, 3)]


class Bottlings(Case, unittest.TestCase):
    def test_no_plan_is_worth_more_than_sheets_show(self):
        draw, seen = drawing(301), {"none": 0, "some": 0, "most": 0}
        for casks, many in SHAPES * 12:
            cellar, products = some_cellar(draw, casks, kinds=["a", "b"]), some_products(draw, many, ["a", "b"])
            best = best_worth(cellar, products)
            places, rows, aim = rows_by_hand(cellar, products)
            self.assertEqual(number(best), end_of_aim(len(places), rows, aim))
            plan = best_plan(cellar, products)
            self.assertEqual(worth(cellar, products, plan), best)
            self.assertEqual(worth_by_hand(cellar, products, plan), number(best))
            for _ in range(4):
                other = some_plan(draw, cellar, many)
                wanted = worth_by_hand(cellar, products, other)
                self.assertEqual(worth(cellar, products, other), None if wanted is None else pair(wanted))
                if wanted is not None and other:
                    self.assertLessEqual(wanted, number(best))
                    seen["some"] += 1
            seen["none"] += best == (0, 1)
            seen["most"] += best != (0, 1)
            self.check_sheets(draw, cellar, products, best)
        self.assertGreater(min(seen.values()), 15, seen)

    def check_sheets(self, draw, cellar, products, best):
        """Check the sheets that are told, and others near to them, by what they must do."""
        found = sheets(cellar, products)
        self.assertIs(sheets_show(cellar, products, best, found), True)
        self.assertIs(sheets_show(cellar, products, pair(number(best) + 1), found), True)
        self.assertIs(sheets_show(cellar, products, pair(number(best) - Fraction(1, LONG)), found), False)
        for _ in range(4):
            other = tuple(tuple(self.changed(draw, entry) for entry in part) for part in found)
            for bound in (best, pair(number(best) + 2)):
                wanted = self.covers(cellar, products, bound, other)
                self.assertIs(sheets_show(cellar, products, bound, other), wanted)

    def changed(self, draw, entry):
        """Return an amount that is sometimes another one, or a tuple of such."""
        if isinstance(entry[0] if entry else (), tuple):
            return tuple(self.changed(draw, inner) for inner in entry)
        return pair(max(Fraction(0), number(entry) + draw.choice([-1, 0, 0, 0, Fraction(1, 2)])))

    def covers(self, cellar, products, bound, value):
        """Return whether sheets cover and show at most a bound, each condition by itself."""
        shown = Fraction(0)
        sizes = [sum((number(much) for _, much in inside), Fraction(0)) for inside in cellar]
        for size, price in zip(sizes, value[0]):
            shown += size * number(price)
        for (rules, _, most), price in zip(products, value[1]):
            if most is None and price != (0, 1):
                return False
            shown += number(price) * (number(most) if most else 0)
        for cask, size in enumerate(sizes):
            for at, (rules, price, _) in enumerate(products):
                sums = number(value[0][cask]) + number(value[1][at])
                for (kinds, sense, share), much in zip(rules, value[2][at]):
                    part = sum((number(more) for kind, more in cellar[cask] if kind in kinds), Fraction(0))
                    missing = number(share) - part / size if size else 0
                    sums += number(much) * (missing if sense == "least" else -missing)
                if size and sums < number(price):
                    return False
        return shown <= number(bound)

    def test_told_plans(self):
        self.assertEqual(best_worth(products=PRODUCTS, cellar=CELLAR), (24, 1))
        self.assertEqual(worth(plan=((0, 0, (4, 1)), (1, 0, (4, 1))), products=PRODUCTS, cellar=CELLAR), (24, 1))
        self.assertIsNone(worth(CELLAR, PRODUCTS, ((0, 0, (3, 1)), (1, 0, (4, 1)))))
        self.assertEqual(worth(CELLAR, PRODUCTS, ()), (0, 1))
        self.assertEqual(worth(CELLAR, PRODUCTS, ((0, 1, (4, 1)), (1, 1, (1, 3)))), (13, 3))
        self.assertIsNone(worth(CELLAR, PRODUCTS, ((0, 0, (2, 1)), (0, 1, pair(2 + Fraction(1, LONG))))))
        limited = (((), (3, 1), (5, 1)), ((OLD,), (2, 1), (0, 1)))
        self.assertEqual(best_worth(CELLAR, limited), (15, 1))
        self.assertEqual(worth(CELLAR, limited, ((0, 0, (4, 1)), (1, 0, (1, 1)))), (15, 1))
        self.assertIsNone(worth(CELLAR, limited, ((0, 0, (4, 1)), (1, 0, (4, 3)))))
        self.assertIsNone(worth(CELLAR, limited, ((0, 1, (1, LONG)),)))

    def test_nothing_to_make(self):
        never = ((("old",), "least", (1, 1)), (("old",), "most", (0, 1)))
        cases = [(((), ()), ()), (((), ()), PRODUCTS), (CELLAR, ()), (CELLAR, (((), (0, 1), None),)),
            (CELLAR, (((), (5, 1), (0, 1)),)), (CELLAR, ((never, (1, 1), None),))]
        for cellar, products in cases:
            self.assertEqual(best_worth(cellar, products), (0, 1))
            self.assertEqual(worth(cellar, products, best_plan(cellar, products)), (0, 1))
            self.assertIs(sheets_show(cellar, products, (0, 1), sheets(cellar, products)), True)
            self.assertIs(sheets_show(cellar, products, (-1, 1), sheets(cellar, products)), False)
        self.assertEqual(best_plan(((),), PRODUCTS), ())
        self.assertIsNone(worth(((),), PRODUCTS, ((0, 1, (1, LONG)),)))
        # The price of an empty cask is any amount, and nothing has to cover it.
        empty = ((), fill(old=1))
        self.assertIs(sheets_show(empty, PRODUCTS[1:], (1, 1), (pairs(7, 1), pairs(0), ((),))), True)
        self.assertIs(sheets_show(empty, PRODUCTS[1:], (1, 1), (pairs(0, 1), pairs(0), ((),))), True)
        self.assertIs(sheets_show(empty, PRODUCTS[1:], (1, 1), (pairs(0, Fraction(1, 2)), pairs(0), ((),))), False)

    def test_objects_that_are_none(self):
        part = (0, 0, (1, 1))
        for value in NONE_OF_ANY[:-1] + [[], [part], (part, part), ((1, 1, (1, 1)), part), (part, (0, 0, (2, 1))),
                (part + part,), ((0, 0),), ([0, 0, (1, 1)],), ((2, 0, (1, 1)),), ((0, 2, (1, 1)),), ((-1, 0, (1, 1)),),
                ((0, -1, (1, 1)),), ((True, 1, (1, 1)),), ((0, 1, (0, 1)),), ((0, 1, (2, 2)),), ((0, 1, 1),),
                ((0, 1, (-1, 1)),),
                ((ECHO, 1, (1, 1)),), ((0, ODD, (1, 1)),), ((0, 1, ECHO),)]:
            with self.subTest(value=value):
                self.assertIsNone(worth(CELLAR, PRODUCTS, value))
        shown = (pairs(9, 9), pairs(0, 0), (pairs(0), ()))
        self.assertIs(sheets_show(value=shown, bound=(72, 1), products=PRODUCTS, cellar=CELLAR), True)
        for value in NO_SHEETS:
            with self.subTest(value=value):
                self.assertIs(sheets_show(CELLAR, PRODUCTS, (999, 1), value), False)

    def test_at_the_limits(self):
        draw, far = drawing(302), 10**30
        for casks, many in ((1, 8), (2, 4), (4, 2), (8, 1)):
            cellar = tuple(fill(**{kind: Fraction(draw.randrange(1, far), draw.randrange(1, far))
                for kind in "abcdefghijkl"})
                for _ in range(casks))
            products = tuple((tuple((tuple(sorted(draw.sample("abcdefghijkl", 4))), draw.choice(["least", "most"]),
                pair(Fraction(draw.randrange(far // 5, far // 2), far + 7))) for _ in range(3)),
                pair(Fraction(draw.randrange(far), draw.randrange(1, far))),
                draw.choice([None, pair(Fraction(draw.randrange(far), draw.randrange(1, far)))])) for _ in range(many))
            best = best_worth(cellar, products)
            self.assertEqual(worth(cellar, products, best_plan(cellar, products)), best)
            self.assertIs(sheets_show(cellar, products, best, sheets(cellar, products)), True)


class Refusals(Case, unittest.TestCase):
    CALLS = [(worth, (None,)), (best_plan, ()), (best_worth, ()), (sheets, ()), (sheets_show, (None, None))]

    def test_wrong_inputs(self):
        for function, more in self.CALLS:
            for value in NO_CELLARS:
                self.refused(InvalidCellar, value, function, value, None, *more)
            for value in NO_PRODUCTS_INSIDE:
                with self.subTest(value=value):
                    self.refused(BadProducts, (value,), function, CELLAR, (value,), *more)
                    self.refused(BadProducts, PRODUCTS + (value,), function, CELLAR, PRODUCTS + (value,), *more)
            for value in NONE_OF_ANY + [[], list(PRODUCTS), {0: PRODUCTS[0]}, PRODUCTS[0]]:
                self.refused(BadProducts, value, function, CELLAR, value, *more)
        for value in NO_FRACTIONS:
            self.refused(InvalidFraction, value, sheets_show, CELLAR, PRODUCTS, value, None)


if __name__ == "__main__":
    unittest.main()
