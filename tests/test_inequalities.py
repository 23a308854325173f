import unittest
from fractions import Fraction

from caskyears.errors import BadAim, BadStand, BadSystem, InvalidFraction
from caskyears.inequalities import best_point, greatest, holds_at, is_system, point_of, prices, prices_hold
from caskyears.inequalities import refusal_holds, refusal_of, way_on
from tests.helper import ECHO, LONG, LONGER, NONE_OF_ANY, ODD, Case, drawing, end_of_aim, number, pair, pairs

HALF = (1, 2)
NO_SYSTEMS = NONE_OF_ANY + [
    (), (1,), (1, (), ()), [1, ()], (1, []), (-1, ()), (True, ()), ((1, 1), ()), ("1", ()), (None, ()), (1, None),
    (1, ((),)), (1, ((pairs(1), HALF), None)), (1, ((pairs(1),),)), (1, ((pairs(1), HALF, HALF),)),
    (1, ([pairs(1), HALF],)), (1, ((list(pairs(1)), HALF),)), (1, ((pairs(1, 1), HALF),)), (1, (((), HALF),)),
    (0, ((pairs(1), HALF),)), (1, ((pairs(1), 1),)), (1, ((pairs(1), (2, 4)),)), (1, (((1, 1), HALF),)),
    (1, ((((2, 4),), HALF),)), (1, ((((True, 1),), HALF),)), (1, ((pairs(1), [1, 2]),)), {1: ()}, (1, ODD), (ECHO, ()),
    (1, ((pairs(1), None),)), (2, ((pairs(1, 1), HALF), (pairs(1), HALF))),
]
# Points up to a corner, a strip without an end, a cone, a point alone, a system that contradicts itself, and none.
CORNER = (2, ((pairs(1, 1), pair(4)), (pairs(1, 0), pair(3)), (pairs(-1, 0), pair(0)), (pairs(0, -1), pair(0))))
STRIP = (2, ((pairs(1, 0), pair(1)), (pairs(-1, 0), pair(0))))
CONE = (2, ((pairs(-1, 0), pair(0)), (pairs(1, -1), pair(0))))
ALONE = (1, ((pairs(2), pair(3)), (pairs(-2), pair(-3))))
NEVER = (1, ((pairs(1), pair(1)), (pairs(-1), pair(-2))))
FREE = (2, ())
NO_UNKNOWNS = (0, (((), pair(1)), ((), pair(0))))
REFUSED = (0, (((), pair(1)), ((), pair(-1))))
EVERY = [CORNER, STRIP, CONE, ALONE, NEVER, FREE, NO_UNKNOWNS, REFUSED, (0, ()), (8, ())]


def plain(system):
    """Return the rows of a system with Python's fractions."""
    return [([number(factor) for factor in factors], number(bound)) for factors, bound in system[1]]


def worth(aim, point):
    """Return the sum of the products of two tuples."""
    return sum((number(x) * number(y) for x, y in zip(aim, point)), Fraction(0))


def made(system, multipliers):
    """Return the factors and the bound that multipliers make of the rows."""
    rows = plain(system)
    times = [number(entry) for entry in multipliers]
    factors = [sum(many * row[0][at] for many, row in zip(times, rows)) for at in range(system[0])]
    return factors, sum((many * row[1] for many, row in zip(times, rows)), Fraction(0))


def some_system(draw, unknowns, rows):
    """Return a system of small numbers."""
    found = []
    for _ in range(rows):
        factors = [Fraction(draw.randrange(-2, 3), draw.randrange(1, 3)) for _ in range(unknowns)]
        found.append((pairs(*factors), pair(Fraction(draw.randrange(-2, 5), draw.randrange(1, 3)))))
    return unknowns, tuple(found)


def some_aim(draw, unknowns):
    """Return an aim of small numbers."""
    return pairs(*[draw.randrange(-2, 3) for _ in range(unknowns)])


class Kinds(unittest.TestCase):
    def test_systems(self):
        for value in EVERY + [(10**30, ()), (1, (((pair(Fraction(-LONG, LONGER)),), (LONG, LONGER)),))]:
            self.assertIs(is_system(value), True, value)
        for value in NO_SYSTEMS:
            self.assertIs(is_system(value), False, value)
        self.assertIs(is_system(value=FREE), True)


class Ends(Case, unittest.TestCase):
    def check(self, system, aim):
        """Check all that is told of an aim by taking out the unknowns; return the word."""
        wanted = end_of_aim(system[0], plain(system), [number(entry) for entry in aim])
        word = wanted if isinstance(wanted, str) else "value"
        found = greatest(system, aim)
        self.assertEqual(found, (word,) if isinstance(wanted, str) else ("value", pair(wanted)))
        best, papers, way = best_point(system, aim), prices(system, aim), way_on(system, aim)
        self.assertEqual([best is None, papers is None, way is None],
            [word != "value", word != "value", word != "endless"])
        if word == "value":
            self.assertTrue(self.is_point(system, best))
            self.assertEqual(worth(aim, best), wanted)
            self.assertIs(type(papers), tuple)
            self.assertTrue(len(papers) == len(system[1]) and all(entry[0] >= 0 for entry in papers))
            self.assertEqual(made(system, papers), ([number(entry) for entry in aim], wanted))
            self.assertIs(prices_hold(system, aim, pair(wanted), papers), True)
            self.assertIs(prices_hold(system, aim, pair(wanted + 1), papers), True)
            self.assertIs(prices_hold(system, aim, pair(wanted - Fraction(1, LONG)), papers), False)
        if word == "endless":
            self.assertIs(type(way), tuple)
            self.assertEqual(worth(aim, way), 1)
            self.assertTrue(all(worth(factors, way) <= 0 for factors, _ in system[1]))
        self.check_point(system, word != "none")
        return word

    def is_point(self, system, point):
        """Return whether a tuple is a point at which all rows hold."""
        self.assertIs(type(point), tuple)
        self.assertEqual(len(point), system[0])
        holds = all(worth(factors, point) <= number(bound) for factors, bound in system[1])
        self.assertIs(holds_at(system, point), holds)
        return holds

    def check_point(self, system, is_one):
        """Check that there is a point or a refusal, never both."""
        point, refusal = point_of(system), refusal_of(system)
        self.assertEqual([point is None, refusal is None], [not is_one, is_one])
        if is_one:
            self.assertTrue(self.is_point(system, point))
        else:
            self.assertTrue(len(refusal) == len(system[1]) and all(entry[0] >= 0 for entry in refusal))
            factors, bound = made(system, refusal)
            self.assertTrue(not any(factors) and bound < 0)
            self.assertIs(refusal_holds(system, refusal), True)

    def test_by_taking_out(self):
        draw = drawing(171)
        words = {"none": 0, "endless": 0, "value": 0}
        for unknowns in (0, 1, 2, 3):
            for rows in (0, 1, 2, 3, 4, 5, 6):
                for _ in range(8):
                    system = some_system(draw, unknowns, rows)
                    words[self.check(system, some_aim(draw, unknowns))] += 1
                    words[self.check(system, pairs(*[0] * unknowns))] += 1
        self.assertGreater(min(words.values()), 40, words)

    def test_rows_that_hang_together(self):
        draw = drawing(172)
        for _ in range(60):
            unknowns, rows = some_system(draw, 3, 3)
            rows = [list(row) for row in rows]
            rows.append([pairs(*[2 * number(x) - number(y) for x, y in zip(rows[0][0], rows[1][0])]), rows[2][1]])
            rows += [[pairs(*[-number(x) for x in rows[0][0]]), pair(-number(rows[0][1]))], rows[0]]
            self.check((unknowns, tuple(tuple(row) for row in rows)), some_aim(draw, 3))

    def test_edges(self):
        for system in EVERY:
            self.check(system, pairs(*[0] * system[0]))
            self.check(system, pairs(*[1] * system[0]))
            self.check(system, pairs(*[-1] * system[0]))
        self.assertEqual([greatest(FREE, pairs(0, 0)), greatest(FREE, pairs(0, 1))], [("value", (0, 1)), ("endless",)])
        self.assertEqual(greatest(aim=pairs(3), system=ALONE), ("value", (9, 2)))
        self.assertEqual(best_point(aim=pairs(3), system=ALONE), ((3, 2),))
        self.assertEqual(greatest(NEVER, pairs(1)), ("none",))
        self.assertEqual(greatest(NO_UNKNOWNS, ()), ("value", (0, 1)))
        self.assertEqual([point_of(system=(0, ())), point_of(NO_UNKNOWNS), point_of(REFUSED)], [(), (), None])
        self.assertEqual([refusal_of(system=(0, ())), refusal_of(FREE)], [None, None])
        for system, one, other, end in ((STRIP, pairs(1, 0), pairs(0, -1), 1), (CONE, pairs(1, -1), pairs(1, 0), 0)):
            self.assertEqual([greatest(system, one), greatest(system, other)], [("value", pair(end)), ("endless",)])
        self.assertEqual(prices(aim=(), system=(0, ())), ())
        self.assertEqual(way_on(aim=pairs(0, 0), system=FREE), None)

    def test_eight_unknowns_and_24_rows(self):
        draw = drawing(173)
        words = []
        for times in range(6):
            rows = []
            for at in range(24):
                factors = [Fraction(draw.randrange(-(10**30), 10**30), draw.randrange(1, 10**30)) for _ in range(8)]
                bound = Fraction(draw.randrange(-(10**29) * (times == 2), 10**30), draw.randrange(1, 10**30))
                if times > 2 and at < 8:
                    factors, bound = [-1 if at == place else 0 for place in range(8)], 0
                rows.append((pairs(*factors), pair(bound)))
            system, aim = (8, tuple(rows)), pairs(*[draw.randrange(-(10**30), 10**30) for _ in range(8)])
            found = greatest(system, aim)
            words.append(found[0])
            if found[0] == "value":
                self.assertTrue(self.is_point(system, best_point(system, aim)))
                self.assertEqual(worth(aim, best_point(system, aim)), number(found[1]))
                self.assertEqual(made(system, prices(system, aim)), ([number(x) for x in aim], number(found[1])))
            self.check_point(system, found[0] != "none")
        self.assertIn("value", words)

    def test_a_cube(self):
        rows = []
        for at in range(8):
            unit = [int(at == place) for place in range(8)]
            rows += [(pairs(*unit), pair(1)), (pairs(*[-entry for entry in unit]), pair(0))]
        self.assertEqual(greatest((8, tuple(rows)), pairs(*range(1, 9))), ("value", (36, 1)))
        self.assertEqual(best_point((8, tuple(rows)), pairs(1, -1, 2, -2, 3, -3, 4, -4)), pairs(*[1, 0] * 4))


class Papers(Case, unittest.TestCase):
    def test_holds_at(self):
        for point, holds in [((0, 0), True), ((3, 1), True), ((3, Fraction(11, 10)), False), ((-1, 0), False),
                ((Fraction(1, 2), Fraction(7, 2)), True)]:
            self.assertIs(holds_at(CORNER, pairs(*point)), holds)
        self.assertIs(holds_at(point=pairs(-5, LONG), system=FREE), True)
        self.assertIs(holds_at(NO_UNKNOWNS, ()), True)
        self.assertIs(holds_at(REFUSED, ()), False)

    def test_what_does_not_refuse(self):
        self.assertIs(refusal_holds(NEVER, pairs(1, 1)), True)
        self.assertIs(refusal_holds(value=pairs(3, 3), system=NEVER), True)
        self.assertIs(refusal_holds(REFUSED, pairs(0, Fraction(1, LONG))), True)
        self.assertIs(refusal_holds(REFUSED, pairs(1, 2)), True)
        for value in NONE_OF_ANY + [
            (), pairs(1), pairs(1, 2), pairs(2, 1), pairs(0, 0), pairs(-1, -1), pairs(1, 1, 0), list(pairs(1, 1)),
            ((2, 2), (1, 1)), ((1, 1), None), (1, 1), ((True, 1), (1, 1)), ([1, 1], [1, 1]), (ECHO, ECHO),
        ]:
            self.assertIs(refusal_holds(NEVER, value), False, value)
        self.assertIs(refusal_holds(REFUSED, pairs(1, 1)), False)
        self.assertIs(refusal_holds(REFUSED, pairs(0, 0)), False)
        self.assertIs(refusal_holds(FREE, ()), False)
        self.assertIs(refusal_holds(ALONE, pairs(1, 1)), False, "a bound of 0 refuses nothing")

    def test_what_prices_do_not_hold(self):
        aim = pairs(2, 1)
        for value, bound, holds in [
            (pairs(1, 1, 0, 0), 7, True), (pairs(1, 1, 0, 0), 8, True), (pairs(1, 1, 0, 0), Fraction(69, 10), False),
            (pairs(2, 0, 0, 1), 8, True), (pairs(2, 0, 0, 1), 7, False), (pairs(1, 1, 1, 0), 9, False),
            (pairs(1, 2, 1, 0), 10, True), (pairs(0, 0, 0, 0), 9, False), (pairs(1, 1, 0), 7, False),
            (list(pairs(1, 1, 0, 0)), 7, False), (pairs(1, 1, 0, 0, 0), 7, False), (pairs(2, 0, 0, -1), 9, False),
            (pairs(3, 0, 1, 2), 12, True), (pairs(0, 2, 0, -1), 9, False),
        ]:
            self.assertIs(prices_hold(CORNER, aim, pair(bound), value), holds, (value, bound))
        for value in NONE_OF_ANY:
            self.assertIs(prices_hold(CORNER, aim, (9, 1), value), False)
        self.assertIs(prices_hold(value=pairs(1, 2), bound=pair(-3), aim=pairs(-1), system=NEVER), True, "no point")
        self.assertIs(prices_hold((0, ()), (), (0, 1), ()), True)
        self.assertIs(prices_hold((0, ()), (), (-1, 1), ()), False)


class Refusals(Case, unittest.TestCase):
    def test_systems(self):
        for value in NO_SYSTEMS:
            with self.subTest(value=value):
                self.refused(BadSystem, value, holds_at, value, None)
                self.refused(BadSystem, value, point_of, value)
                self.refused(BadSystem, value, refusal_of, value)
                self.refused(BadSystem, value, refusal_holds, value, None)
                for function in (greatest, best_point, prices, way_on):
                    self.refused(BadSystem, value, function, value, None)
                self.refused(BadSystem, value, prices_hold, value, None, None, None)

    def test_points_and_aims(self):
        for value in NONE_OF_ANY + [
            (), pairs(1), pairs(1, 1, 1), list(pairs(1, 1)), ((2, 4), (1, 1)), ((1, 1), None), (1, 1), ((1, 1), [1, 1]),
            ((True, 1), (1, 1)), {0: (1, 1)},
        ]:
            with self.subTest(value=value):
                self.refused(BadStand, value, holds_at, CORNER, value)
                for function in (greatest, best_point, prices, way_on):
                    self.refused(BadAim, value, function, CORNER, value)
                self.refused(BadAim, value, prices_hold, CORNER, value, None, None)
        self.refused(BadAim, pairs(1), greatest, aim=pairs(1), system=(0, ()))

    def test_bounds(self):
        for value in NONE_OF_ANY + [(2, 4), (1, 0), [1, 1], (True, 1)]:
            with self.subTest(value=value):
                self.refused(InvalidFraction, value, prices_hold, CORNER, pairs(1, 1), value, None)


if __name__ == "__main__":
    unittest.main()
