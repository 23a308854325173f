import unittest
from fractions import Fraction
from itertools import product as choices

from caskyears.audits import between, filled_by, first_wrong, refusal, refusal_shows, rows_of, settled, some_filling
from caskyears.errors import BadBook, BadLine, InvalidNumber
from tests.helper import ECHO, LONG, NONE_OF_ANY, ODD, Case, drawing, end_of_aim, number, pair, pairs
from tests.test_ledger import BAD_AMOUNTS, FAR_LINES, OPEN_LINES, some_book

HALF = (1, 2)
TORN = (("in", 0, "red", (5, 1)), ("move", 0, 1, None), ("loss", 0, None), ("seen", 0, (2, 1)))
NO_LINES = OPEN_LINES + [line + (much,) for much in BAD_AMOUNTS
    for line in (("in", 0, "red"), ("move", 0, 1), ("out", 0), ("loss", 1))] + [
    ("seen", 0, None), ("seen", 0, (-1, 2)), ("seen", 0, (2, 4)), ("seen", 0, 1), ("seen", 0, [1, 2]),
    ("seen", -1, HALF),
    ("seen", True, HALF), ("seen", 0, 1, HALF), ("seen", 0), ("seen", "0", HALF), ["seen", 0, HALF], ("seen", 2, HALF),
    ("seen", 0, ECHO),
    ("in", 2, "red", None), ("move", 0, 2, None), ("out", 2, None), ("out", None, None), ("in", 0, None, None),
] + FAR_LINES


def is_filled(casks, torn, amounts):
    """Return whether amounts fill a torn book, worked line by line by sizes alone."""
    inside, left = [Fraction(0)] * casks, list(amounts)
    for line in torn:
        cask = line[1]
        if line[0] == "seen":
            if inside[cask] != number(line[2]):
                return False
            continue
        much = left.pop(0) if line[-1] is None else number(line[-1])
        if much < 0:
            return False
        if line[0] != "in":
            if much > inside[cask]:
                return False
            inside[cask] -= much
        goal = {"in": cask, "move": line[2]}.get(line[0])
        if goal is not None:
            inside[goal] += much
    return True


def rows_by_hand(casks, torn):
    """Return the rows, by which each hole is worth at 0 and at 1 one by one."""
    holes = sum(line[-1] is None for line in torn)

    def ways(amounts):
        """Return what each row has on the left, told numbers counted, if these are the amounts."""
        inside, left, found = [Fraction(0)] * casks, list(amounts), [-entry for entry in amounts]
        for line in torn:
            if line[0] == "seen":
                found += [inside[line[1]] - number(line[2]), number(line[2]) - inside[line[1]]]
                continue
            much = left.pop(0) if line[-1] is None else number(line[-1])
            if line[0] == "in":
                inside[line[1]] += much
                continue
            found.append(much - inside[line[1]])
            inside[line[1]] -= much
            if line[0] == "move":
                inside[line[2]] += much
        return found

    at_zero = ways([Fraction(0)] * holes)
    units = [ways([Fraction(at == hole) for at in range(holes)]) for hole in range(holes)]
    return holes, [([unit[at] - start for unit in units], -start) for at, start in enumerate(at_zero)]


def some_torn(draw, casks, many, holes):
    """Return a torn book, mostly one that something fills."""
    book = [line for line in some_book(draw, casks, many)]
    inside, torn = [Fraction(0)] * casks, []
    for line in book:
        much = number(line[-1])
        if line[0] != "in" and inside[line[1]] < much:
            continue
        torn.append(line)
        if line[0] == "in":
            inside[line[1]] += much
        else:
            inside[line[1]] -= much
            if line[0] == "move":
                inside[line[2]] += much
        if draw.random() < 0.35:
            cask = draw.randrange(casks)
            torn.append(("seen", cask, pair(inside[cask] + (draw.choice([0, 1]) if draw.random() < 0.4 else 0))))
    places = [at for at, line in enumerate(torn) if line[0] != "seen"]
    for at in draw.sample(places, min(holes, len(places))):
        torn[at] = torn[at][:-1] + (None,)
    return tuple(torn)


class Audits(Case, unittest.TestCase):
    def test_ends_by_taking_out_unknowns(self):
        draw, seen = drawing(361), {"none": 0, "one": 0, "many": 0, "endless": 0}
        for at in range(240):
            casks = 1 + at % 3
            torn = some_torn(draw, casks, draw.randrange(1, 8), draw.randrange(4))
            holes, rows = rows_by_hand(casks, torn)
            self.assertEqual(rows_of(casks, torn), (holes, tuple((pairs(*factors), pair(bound)) for factors,
                bound in rows)))
            ends = []
            for hole in range(holes):
                aim = [Fraction(place == hole) for place in range(holes)]
                most = end_of_aim(holes, rows, aim)
                ends.append(None if most == "none" else (-end_of_aim(holes, rows, [-entry for entry in aim]), most))
            none = end_of_aim(holes, rows, [Fraction(0)] * holes) == "none"
            for hole, entry in enumerate(ends):
                told = None if none else (pair(entry[0]), None if entry[1] == "endless" else pair(entry[1]))
                self.assertEqual(between(casks, torn, hole), told)
            self.assertEqual(settled(casks, torn), [] if none
                else [hole for hole, entry in enumerate(ends) if entry[0] == entry[1]])
            self.check_papers(draw, casks, torn, rows, none)
            wrong = [many for many in range(len(torn) + 1) if end_of_aim(*self.first(casks, torn, many)) == "none"]
            self.assertEqual(first_wrong(casks, torn), wrong[0] if wrong else None)
            seen["none" if none else "one" if len(settled(casks, torn)) == holes else "many"] += 1
            seen["endless"] += not none and any(entry[1] == "endless" for entry in ends)
        self.assertGreater(min(seen.values()), 12, seen)

    def first(self, casks, torn, many):
        """Return the rows of so many first lines, and an aim of nothing."""
        holes, rows = rows_by_hand(casks, torn[:many])
        return holes, rows, [Fraction(0)] * holes

    def check_papers(self, draw, casks, torn, rows, none):
        """Check a filling or a refusal, and others near to it."""
        filling, paper = some_filling(casks, torn), refusal(casks, torn)
        self.assertEqual([filling is None, paper is None], [none, not none])
        if none:
            self.assertTrue(self.refuses(rows, paper))
            self.assertIs(refusal_shows(casks, torn, paper), True)
            for _ in range(3):
                other = list(paper)
                at = draw.randrange(len(other))
                other[at] = pair(number(other[at]) + draw.choice([1, -1, Fraction(1, 3)]))
                self.assertIs(refusal_shows(casks, torn, tuple(other)), self.refuses(rows, other))
            return
        self.assertTrue(is_filled(casks, torn, [number(entry) for entry in filling]))
        for amounts in list(choices([Fraction(0), Fraction(1), Fraction(5, 2), Fraction(-1)],
            repeat=len(filling)))[:64]:
            self.assertIs(filled_by(casks, torn, pairs(*amounts)), is_filled(casks, torn, amounts))
        self.assertIs(filled_by(casks, torn, filling), True)
        self.assertIs(refusal_shows(casks, torn, ((1, 1),) * len(rows)), self.refuses(rows, ((1, 1),) * len(rows)))

    def refuses(self, rows, paper):
        """Return whether multipliers make of the rows one that never holds."""
        factors = [number(entry) for entry in paper]
        sums = [sum(factor * row[0][at] for factor, row in zip(factors, rows))
            for at in range(len(rows[0][0]) if rows else 0)]
        return min(factors, default=0) >= 0 and not any(sums) and sum(factor * row[1] for factor,
            row in zip(factors, rows)) < 0

    def test_edges(self):
        self.assertEqual(between(hole=0, torn=TORN, count=2), pairs(0, 3))
        self.assertEqual(settled(torn=TORN + (("seen", 1, (3, 1)),), count=2), [0, 1])
        self.assertEqual(first_wrong(torn=TORN + (("seen", 1, (4, 1)), ("in", 1, "a", HALF)), count=2), 5)
        self.assertIs(filled_by(amounts=pairs(3, 0), torn=TORN, count=2), True)
        self.assertIs(filled_by(TORN and 2, TORN, pairs(2, 2)), False)
        self.assertEqual([some_filling(1, ()), settled(1, ()), refusal(1, ()), first_wrong(1, ()), rows_of(1, ()),
            filled_by(1, (), ())],
            [(), [], None, None, (0, ()), True])
        # No size was seen, so there is no greatest amount.
        grown = (("in", 0, "red", None), ("out", 0, None))
        self.assertEqual([between(1, grown, 0), between(1, grown, 1)], [((0, 1), None), ((0, 1), None)])
        self.assertEqual(settled(1, grown), [])
        self.assertIs(filled_by(1, grown, pairs(LONG, LONG)), True)
        self.assertIs(filled_by(1, grown, pairs(0, Fraction(1, LONG))), False)
        # Without holes a book is right or it is not.
        right = (("in", 0, "red", (1, 1)), ("seen", 0, (1, 1)), ("out", 0, (1, 1)), ("seen", 0, (0, 1)))
        self.assertEqual([some_filling(1, right), refusal(1, right), first_wrong(1, right), settled(1, right)],
            [(), None, None, []])
        for wrong, least in ((right + (("out", 0, HALF),), 5), (right[:1] + (("seen", 0, HALF),) + right[1:], 2)):
            self.assertIsNone(some_filling(1, wrong))
            self.assertEqual([first_wrong(1, wrong), settled(1, wrong), filled_by(1, wrong, ())], [least, [], False])
            self.assertIs(refusal_shows(value=refusal(torn=wrong, count=1), torn=wrong, count=1), True)
        self.assertEqual(first_wrong(1, (("out", 0, HALF), ("in", 0, "a", HALF))), 1)
        # A hole may be 0: then its line does nothing.
        zero = (("in", 0, "red", None), ("move", 0, 1, None), ("seen", 0, (0, 1)), ("seen", 1, (0, 1)))
        self.assertEqual([some_filling(2, zero), settled(2, zero)], [pairs(0, 0), [0, 1]])
        self.assertIsNone(between(1, (("in", 0, "a", HALF), ("out", 0, None), ("seen", 0, (1, 1))), 0))
        self.assertEqual(rows_of(torn=TORN, count=2), (2, (
            (pairs(-1, 0), pair(0)), (pairs(0, -1), pair(0)), (pairs(1, 0), pair(5)), (pairs(1, 1), pair(5)),
            (pairs(-1, -1), pair(-3)), (pairs(1, 1), pair(3)))))
        self.all_new(settled, 2, TORN + (("seen", 1, (3, 1)),))

    def test_any_object(self):
        for value in NONE_OF_ANY + [(), pairs(3), pairs(3, 0, 0), list(pairs(3, 0)), ((3, 1), None), ((3, 1), 0),
            ((6, 2), (0, 1)),
                (ECHO, ECHO), (ODD, (0, 1)), pairs(4, -1), ((3, 1), (False, 1)), [[3, 1], [0, 1]]]:
            with self.subTest(value=value):
                self.assertIs(filled_by(2, TORN, value), False)
        wrong = (("out", 0, (1, 1)),)
        self.assertIs(refusal_shows(1, wrong, pairs(2)), True)
        for value in NONE_OF_ANY + [(), pairs(0), pairs(-1), pairs(1, 0), list(pairs(1)), ((2, 2),), (ECHO,), (None,),
            ((1,),)]:
            with self.subTest(value=value):
                self.assertIs(refusal_shows(1, wrong, value), False)

    def test_at_the_limits(self):
        draw, far = drawing(362), 10**30
        much = [Fraction(draw.randrange(far // 9, far), draw.randrange(far // 9, far)) for _ in range(24)]
        torn = [("in", at, "a", pair(much[at])) for at in range(8)]
        for at in range(8, 16):
            torn.append(("move", at % 8, (at + 3) % 8, None))
        for at in range(16, 24):
            torn.append(("seen", at % 8, pair((much[at % 8] + much[(at + 5) % 8]) / 2)))
        torn = tuple(torn)
        self.assertEqual([filled_by(8, torn, some_filling(8, torn)) if some_filling(8, torn) else None,
            first_wrong(8, torn) is None], [True, True] if some_filling(8, torn) else [None, False])
        for hole in range(8):
            between(8, torn, hole)
        loose = torn[:16] + tuple(("out", at, pair(much[at] / far)) for at in range(8))
        filling = some_filling(8, loose)
        self.assertTrue(is_filled(8, loose, [number(entry) for entry in filling]))
        for hole in range(8):
            least, most = between(8, loose, hole)
            self.assertEqual(least, (0, 1))
            self.assertGreater(number(most), 0)
        self.assertEqual(settled(8, loose), [])


class Refusals(Case, unittest.TestCase):
    CALLS = [(filled_by, (None,)), (some_filling, ()), (between, (None,)), (settled, ()), (rows_of, ()), (refusal, ()),
        (refusal_shows, (None,)), (first_wrong, ())]

    def test_wrong_inputs(self):
        for function, more in self.CALLS:
            for count in (0, -1, 9, 10**50):
                self.refused(InvalidNumber, count, function, count, None, *more)
            for value in NO_LINES:
                with self.subTest(value=value):
                    self.refused(BadBook, 0, function, 2, (value,), *more)
                    self.refused(BadBook, 1, function, 2, (TORN[0], value, None), *more)
            for value in NONE_OF_ANY + [[], list(TORN), {0: TORN[0]}]:
                self.refused(BadBook, 0 if isinstance(value, tuple) else value, function, 2, value, *more)
        for hole in (-1, 2, 10**50, None, True, "0", [0], (0,)):
            self.refused(BadLine, hole, between, 2, TORN, hole)
        self.refused(BadLine, 0, between, 2, (), 0)


if __name__ == "__main__":
    unittest.main()
