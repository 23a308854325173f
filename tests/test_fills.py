import unittest
from fractions import Fraction

from caskyears.errors import InvalidCellar, InvalidFill, InvalidFraction, Unlike
from caskyears.fills import all_of, amount, is_cellar, is_fill, part, rest, share_of, size, together
from tests.helper import LONG, LONGER, NONE_OF_ANY, ODD, Case, drawing, fill, number, pair, some_cellar

NO_KINDS = [kind for kind in NONE_OF_ANY if kind not in ("red", "move")] + [
    "", "Red", "red ", "abcdefghi", "r3d", "r-d", "{", "`", "a\n", ["red"], b"r", ("red",),
]
NO_FILLS = NONE_OF_ANY + [
    [], [("red", (1, 1))], (("red", (0, 1)),), (("red", (-1, 1)),), (("red", (2, 2)),), (("red", 1),), (("red",),),
    ("ab",),
    (("red", (1, 1), 1),), (["red", (1, 1)],), (("red", [1, 1]),), (("red", (True, 1)),), (("red", (1, True)),),
    (("Red", (1, 1)),), (("", (1, 1)),), (("abcdefghi", (1, 1)),), ((b"red", (1, 1)),), ((None, (1, 1)),),
    (("red", None),),
    (("red", (1, 1)), ("red", (1, 1))), (("white", (1, 1)), ("red", (1, 1))), (("red", (1, 1)), None), {"red": (1, 1)},
    (("a", (1, 1)), ("c", (1, 1)), ("b", (1, 1))), ((), ()), (((1, 1), "red"),), (("red", (1, 0)),), (("r d", (1, 1)),),
]
RED, BOTH = fill(red=3), fill(red=1, white=Fraction(1, 2))
NO_CELLARS = [value for value in NONE_OF_ANY] + [
    (), [], [()], ((), None), ((), []), (RED, [RED]), ((),) * 9, (RED, (("red", (0, 1)),)), (RED, RED[0]), RED, (None,),
    ((("white", (1, 1)), ("red", (1, 1))),), {0: ()}, "ab", (("red", (1, 1)),),
]


class Kinds(unittest.TestCase):
    def test_fills(self):
        twelve = tuple((letter, (1, 1)) for letter in "abcdefghijkl")
        for value in [(), RED, BOTH, fill(a=1), fill(abcdefgh=LONG, z=Fraction(1, LONGER)), twelve, fill(az=1, b=2)]:
            self.assertIs(is_fill(value), True, value)
            self.assertIs(is_cellar((value,)), True, value)
        for value in NO_FILLS:
            self.assertIs(is_fill(value), False, value)
            self.assertIs(is_cellar(((), value)), False, value)
        self.assertIs(is_fill(value=()), True)

    def test_cellars(self):
        for value in [((),), ((),) * 8, (RED, (), BOTH), (RED,) * 8]:
            self.assertIs(is_cellar(value), True, value)
        for value in NO_CELLARS:
            self.assertIs(is_cellar(value), False, value)
        self.assertIs(is_cellar(value=((),)), True)


class Working(Case, unittest.TestCase):
    def test_size_amount_share(self):
        for of, kind in [(RED, "red"), (RED, "white"), (BOTH, "red"), (BOTH, "white"), (BOTH, "z"), ((), "red")]:
            amounts = {name: number(much) for name, much in of}
            whole = sum(amounts.values())
            self.assertEqual(size(of), pair(whole))
            self.assertEqual(amount(of, kind), pair(amounts.get(kind, 0)))
            self.assertEqual(share_of(of, kind), pair(Fraction(amounts.get(kind, 0)) / whole) if of else None)
        self.assertEqual(size(fill=()), (0, 1))
        self.assertEqual(amount(kind="red", fill=RED), (3, 1))
        self.assertEqual(share_of(kind="red", fill=BOTH), (2, 3))
        self.assertIs(share_of((), "a"), None)
        self.assertEqual(size(fill(a=Fraction(1, LONG), b=Fraction(1, LONGER))),
            pair(Fraction(1, LONG) + Fraction(1, LONGER)))

    def test_together(self):
        draw = drawing(11)
        for casks in range(1, 9):
            cellar = some_cellar(draw, casks)
            sums = {}
            for of in cellar:
                for kind, much in of:
                    sums[kind] = sums.get(kind, 0) + number(much)
            self.assertEqual(together(list(cellar)), fill(**sums))
            self.assertEqual(all_of(cellar), fill(**sums))
        self.assertEqual(together([]), ())
        self.assertEqual(together(fills=[(), BOTH, ()]), BOTH)
        self.assertEqual(all_of(cellar=((), ())), ())
        self.assertEqual(together([fill(b=1), fill(a=1), fill(c=1)]), fill(a=1, b=1, c=1))

    def test_part(self):
        for share in [Fraction(1), Fraction(1, 3), Fraction(LONG, LONGER), Fraction(1, LONGER)]:
            self.assertEqual(part(BOTH, pair(share)), fill(red=share, white=share / 2))
        self.assertEqual(part(BOTH, (0, 1)), ())
        self.assertEqual(part((), (1, 2)), ())
        self.assertEqual(part(share=(1, 3), fill=RED), fill(red=1))

    def test_rest(self):
        self.assertEqual(rest(BOTH, ()), BOTH)
        self.assertEqual(rest(BOTH, BOTH), ())
        self.assertEqual(rest((), ()), ())
        self.assertEqual(rest(other=fill(white=Fraction(1, 2)), fill=BOTH), fill(red=1))
        self.assertEqual(rest(fill(a=1, b=2, c=3), fill(a=Fraction(1, 3), c=3)), fill(a=Fraction(2, 3), b=2))


class Refusals(Case, unittest.TestCase):
    def test_fills(self):
        for value in NO_FILLS:
            with self.subTest(value=value):
                self.refused(InvalidFill, value, size, value)
                self.refused(InvalidFill, value, amount, value, None)
                self.refused(InvalidFill, value, share_of, value, None)
                self.refused(InvalidFill, value, part, value, None)
                self.refused(InvalidFill, value, rest, value, None)
                self.refused(InvalidFill, value, rest, (), value)
                self.refused(InvalidFill, value, together, [RED, value, None])

    def test_kinds(self):
        for value in NO_KINDS:
            with self.subTest(value=value):
                self.refused(InvalidFill, value, amount, RED, value)
                self.refused(InvalidFill, value, share_of, kind=value, fill=())

    def test_shares(self):
        for value in NONE_OF_ANY + [(-1, 2), (3, 2), (2, 4), [1, 2], (1, True), (1,), (1, 2, 3), (ODD, 1)]:
            with self.subTest(value=value):
                self.refused(InvalidFraction, value, part, RED, value)

    def test_cellars(self):
        for value in NO_CELLARS:
            with self.subTest(value=value):
                self.refused(InvalidCellar, value, all_of, value)

    def test_more_than_there_is(self):
        self.refused(Unlike, "red", rest, (), RED)
        self.refused(Unlike, "b", rest, fill(a=1, b=1, c=1), fill(a=1, b=2, c=2))
        self.refused(Unlike, "a", rest, fill(b=1), fill(a=Fraction(1, LONGER), b=2))
        self.refused(Unlike, "c", rest, other=fill(a=1, c=Fraction(LONGER, LONG)), fill=fill(a=1, b=1, c=1))


if __name__ == "__main__":
    unittest.main()
