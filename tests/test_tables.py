import unittest
from fractions import Fraction
from itertools import combinations, permutations, product as choices

from caskyears.errors import InvalidFraction, InvalidNumber, InvalidTable, Unlike
from caskyears.tables import behind, is_table, keeps_all, power, rank, solutions, solutions_hold, still
from tests.helper import ECHO, LONG, LONGER, NONE_OF_ANY, Case, drawing, matrix, number, pair, pairs, product
from tests.helper import rank_by_rows, some_table, table, unit

HALF = table([Fraction(1, 2), 0], [Fraction(1, 2), 1])
NO_TABLES = NONE_OF_ANY + [
    (), ((),), [[(1, 1)]], ([(1, 1)],), [((1, 1),)], (((1, 2),), ((1, 2),)), (((1, 1), (0, 1)),), (((2, 4),),),
    (((3, 2),),), (((-1, 2),),), (((True, 1),),), (((1, True),),), ((1,),), (None,), ((None,),),
    (((1, 1), (0, 1)), ((0, 1),)),
    (((1, 2), (0, 1)), ((2, 3), (1, 1))), (((0, 1), (LONG, LONGER)), ((0, 1), (1, 1))),
    (((1, 1), (0, 1)), [(0, 1), (1, 1)]),
    (((1, 1), (0, 1)), ((0, 1), [1, 1])), (((1, 1), (1, 2)), ((0, 1), (-1, 2))), tuple(((0, 1),) * 9 for _ in range(9)),
    {0: ((1, 1),)}, ("ab", "cd"), table(*[[Fraction(1, 8)] * 8] * 7 + [[Fraction(1, 8)] * 7 + [Fraction(1, 7)]]),
]


class Kinds(unittest.TestCase):
    def test_tables(self):
        for value in [
            table([0]), table([1]), table([Fraction(1, 3)]), HALF, table([0, 0], [0, 0]), table([0, 1], [1, 0]),
            table([Fraction(LONG, LONGER)]), table([Fraction(1, LONGER), 0], [Fraction(LONGER - 1, LONGER), 1]),
            table(*[[Fraction(1, 8)] * 8] * 8), table(*unit(8)), table(*[[0] * 8] * 8), some_table(drawing(1), 5),
        ]:
            self.assertIs(is_table(value), True, value)

    def test_what_are_none(self):
        for value in NO_TABLES:
            self.assertIs(is_table(value), False, value)

    def test_a_column_that_adds_up_to_just_more_than_one(self):
        more = Fraction(1, LONGER)
        self.assertIs(is_table(table([Fraction(1, 2), 0], [Fraction(1, 2), 0])), True)
        self.assertIs(is_table(table([Fraction(1, 2), 0], [Fraction(1, 2) + more, 0])), False)
        self.assertIs(is_table(table([0, Fraction(1, 2)], [0, Fraction(1, 2) + more])), False)
        self.assertIs(is_table(table([1, 1], [0, 0])), True, "rows may add up to more")

    def test_by_name(self):
        self.assertIs(is_table(value=HALF), True)


class Working(Case, unittest.TestCase):
    def test_still(self):
        for casks in range(1, 9):
            self.assertEqual(still(casks), table(*unit(casks)))
        self.assertEqual(still(casks=1), (((1, 1),),))
        for casks in (0, -1, 9, 10**40):
            self.refused(InvalidNumber, casks, still, casks)

    def test_behind(self):
        draw = drawing(2)
        for casks in [1, 2, 3, 5, 8] * 3:
            one, other = some_table(draw, casks), some_table(draw, casks)
            found = behind(one, other)
            self.assertEqual(matrix(found), product(matrix(other), matrix(one)))
            self.assertTrue(is_table(found))
        self.assertEqual(behind(other=table([0, 1], [1, 0]), one=HALF), table([Fraction(1, 2), 1], [Fraction(1, 2), 0]))

    def test_power(self):
        draw = drawing(3)
        for casks in (1, 2, 4, 8):
            of = some_table(draw, casks)
            far = unit(casks)
            for rounds in range(9):
                self.assertEqual(matrix(power(of, rounds)), far)
                far = product(matrix(of), far)
        self.assertEqual(power(rounds=2, table=HALF), table([Fraction(1, 4), 0], [Fraction(3, 4), 1]))

    def test_power_of_many_rounds(self):
        self.assertEqual(power(HALF, 300)[0][0], (1, 2**300))
        self.assertEqual(power(HALF, 299)[1][0], (2**299 - 1, 2**299))
        share = (LONG, LONGER)
        self.assertEqual(power(((share,),), 300), (((LONG**300, LONGER**300),),))
        turn = table([0, 1], [1, 0])
        self.assertEqual(power(turn, 300), still(2))
        self.assertEqual(power(turn, 299), turn)
        eight = some_table(drawing(4), 8)
        self.assertEqual(power(eight, 300), behind(power(eight, 150), power(eight, 150)))

    def test_keeps_all(self):
        for of, kept in [
            (HALF, True), (table([1]), True), (table([0]), False), (table([1, 0], [0, Fraction(1, 2)]), False),
            (table([Fraction(LONG, LONGER)]), False), (table([0, 0], [1, 1]), True), (table([1, 1], [0, 0]), True),
            (table([Fraction(1, 2), 0], [0, 1]), False),
        ]:
            self.assertIs(keeps_all(of), kept, of)
        self.assertIs(keeps_all(table=HALF), True)

    def test_refusals(self):
        for value in NO_TABLES:
            with self.subTest(value=value):
                self.refused(InvalidTable, value, behind, value, None)
                self.refused(InvalidTable, value, behind, HALF, value)
                self.refused(InvalidTable, value, behind, table([1]), value)
                self.refused(InvalidTable, value, power, value, -1)
                self.refused(InvalidTable, value, keeps_all, value)
        self.refused(Unlike, 1, behind, HALF, table([1]))
        self.refused(Unlike, 3, behind, one=HALF, other=still(3))
        for rounds in (-1, -(10**40)):
            self.refused(InvalidNumber, rounds, power, HALF, rounds)


def minor_rank(rows):
    """Return the size of the greatest square part of the rows whose determinant is not 0."""
    for size in range(min(len(rows), len(rows[0])), 0, -1):
        for down in combinations(range(len(rows)), size):
            for across in combinations(range(len(rows[0])), size):
                if determinant([[rows[at][to] for to in across] for at in down]):
                    return size
    return 0


def determinant(rows):
    """Return the determinant by going through all sequences."""
    result = Fraction(0)
    for places in permutations(range(len(rows))):
        part = Fraction(1)
        for at, to in enumerate(places):
            part *= rows[at][to]
        swaps = sum(1 for one, other in combinations(places, 2) if one > other)
        result += -part if swaps % 2 else part
    return result


def numbers_of(*rows):
    """Return a list of lists of fractions of the package."""
    return [list(pairs(*row)) for row in rows]


def some_numbers(draw, rows, columns, most=3):
    """Return a list of rows of numbers, some of them sums of others."""
    found = [[Fraction(draw.randrange(-most, most + 1), draw.randrange(1, 3)) for _ in range(columns)]
        for _ in range(rows)]
    if rows > 1 and draw.random() < 0.5:
        found[-1] = [2 * entry - other for entry, other in zip(found[0], found[-2])]
    return found


NO_NUMBERS = NONE_OF_ANY + [
    (), [], [[]], [[], []], [[(1, 1)], []], [[], [(1, 1)]], [[(1, 1)], [(1, 1), (2, 1)]], ([(1, 1)],), [((1, 1),)],
    (((1, 1),),), [[1]], [[(2, 2)]], [[(1, 1), None]], [[True]], [[(True, 1)]], [[(1, 1)], ((1, 1),)], [[[1, 1]]],
    [[(1, 1)]] * 9, [[(1, 1)] * 9], [[(1, 1)], None], {0: [(1, 1)]}, ["ab"], [{}], [[(0, 1)], [(0, 2)]],
]
NO_RIGHT = NONE_OF_ANY + [(2, 2), [1, 1], (1, 0)]


class Numbers(Case, unittest.TestCase):
    def test_rank(self):
        draw = drawing(5)
        for rows, columns in choices(range(1, 5), range(1, 5)):
            for _ in range(6):
                numbers = some_numbers(draw, rows, columns)
                self.assertEqual(rank(numbers_of(*numbers)), minor_rank(numbers))
        self.assertEqual(rank(numbers_of([0])), 0)
        self.assertEqual(rank(numbers_of(*unit(8))), 8)
        self.assertEqual(rank(numbers=numbers_of([0, 0], [0, 3])), 1)
        self.assertEqual(rank(numbers_of([LONG, LONGER], [LONG + 1, LONGER])), 2)
        self.assertEqual(rank(numbers_of([LONG, LONGER], [-LONG, -LONGER])), 1)
        self.assertEqual(rank(numbers_of(*[[at + to for to in range(8)] for at in range(8)])), 2)

    def test_solutions(self):
        draw = drawing(6)
        words = {"one": 0, "many": 0, "none": 0}
        for rows, columns in choices(range(1, 5), range(1, 5)):
            for _ in range(12):
                words[self.check_solution(some_numbers(draw, rows, columns), some_numbers(draw, 1, rows)[0])] += 1
        for size in (6, 8):
            words[self.check_solution(some_numbers(draw, size, size), some_numbers(draw, 1, size)[0])] += 1
        self.assertGreater(min(words.values()), 15, words)

    def check_solution(self, numbers, right):
        """Check what is told by the ranks with and without the right side; return the word."""
        mine, theirs = numbers_of(*numbers), numbers_of(right)[0]
        ranks = rank_by_rows(numbers), rank_by_rows([row + [entry] for row, entry in zip(numbers, right)])
        found = solutions(mine, theirs)
        columns = len(numbers[0])
        word = "none" if ranks[0] < ranks[1] else "one" if ranks[0] == columns else "many"
        self.assertEqual(found[0], word)
        self.assertIs(type(found), tuple)
        self.assertIs(type(found[1]), list)
        told = [number(entry) for entry in found[1]]
        if word == "none":
            self.assertEqual([sum(x * row[at] for x, row in zip(told, numbers)) for at in range(columns)],
                [0] * columns)
            self.assertNotEqual(sum(x * entry for x, entry in zip(told, right)), 0)
        else:
            self.assertEqual([sum(x * y for x, y in zip(row, told)) for row in numbers], right)
        if word == "many":
            ways = [[number(entry) for entry in way] for way in found[2]]
            self.assertEqual(len(ways), columns - ranks[0])
            self.assertEqual(rank_by_rows(ways), len(ways))
            for way in ways:
                self.assertEqual([sum(x * y for x, y in zip(row, way)) for row in numbers], [0] * len(numbers))
        self.assertIs(solutions_hold(mine, theirs, found), True)
        self.all_new(solutions, mine, theirs)
        return word

    def test_long_numbers(self):
        draw = drawing(7)
        rows = [[pair(Fraction(draw.randrange(1, LONGER), draw.randrange(1, LONGER))) for _ in range(8)]
            for _ in range(8)]
        right = [pair(Fraction(draw.randrange(1, LONGER), draw.randrange(1, LONGER))) for _ in range(8)]
        found = solutions(numbers=rows, right=right)
        self.assertEqual(found[0], "one")
        for row, entry in zip(matrix(rows), right):
            self.assertEqual(sum(x * number(y) for x, y in zip(row, found[1])), number(entry))

    def test_what_does_not_hold(self):
        one, right = numbers_of([2, 0], [0, 3]), list(pairs(1, 1))
        good = ("one", [(1, 2), (1, 3)])
        self.assertIs(solutions_hold(value=good, right=right, numbers=one), True)
        for value in NONE_OF_ANY + [
            [], (), ["one", [(1, 2), (1, 3)]], ("one", ((1, 2), (1, 3))), ("one", [(1, 2), (1, 4)]), ("one", [(1, 2)]),
            ("one", [(1, 2), (1, 3)], []), (ECHO, good[1]), (ECHO, [(0, 1), (0, 1)]), ("many", [(1, 2), (1, 3)]),
            ("many", [(1, 2), (1, 3)], []), ("one", None),
            ("one", [(1, 2), (2, 6)]), ("one", [(1, 2), (1, 3), (0, 1)]), ("two", [(1, 2), (1, 3)]), (good,),
            (0, good[1]),
            ("none", [(1, 1), (1, 1)]), ("none", [(0, 1), (0, 1)]), ("one", [(1, 2), None]), ({}, []), ([], []),
        ]:
            self.assertIs(solutions_hold(one, right, value), False, value)

    def test_what_does_not_hold_of_several(self):
        several, right = numbers_of([1, 1, 0]), list(pairs(2))
        point, first, second = list(pairs(1, 1, 5)), list(pairs(1, -1, 0)), list(pairs(0, 0, 7))
        self.assertIs(solutions_hold(several, right, ("many", point, [first, second])), True)
        for value in [
            ("many", point), ("many", point, [first]), ("many", point, [first, first]),
            ("many", point, [first, list(pairs(2, -2, 0))]),
            ("many", point, [first, list(pairs(0, 0, 0))]), ("many", point, [first, second, second]),
            ("many", point, (first, second)),
            ("many", point, [first, tuple(second)]), ("many", tuple(point), [first, second]),
            ("many", first, [first, second]),
            ("many", point, [first, list(pairs(1, 0, 0))]), ("one", point), ("one", point, [first, second]),
            ("many", point, None),
            ("many", point, [first, second[:2]]), ("many", point, [first, None]), ("none", [(0, 1)]),
            ("none", [(1, 1)]),
            ("many", point, [first, [(0, 1), (0, 1), (2, 2)]]), ("many", point, []), ("two", point, [first, second]),
            (ECHO, point, [first, second]),
        ]:
            self.assertIs(solutions_hold(several, right, value), False, value)

    def test_what_does_not_hold_of_none(self):
        none, right = numbers_of([1], [1], [2]), list(pairs(1, 2, 2))
        for value, holds in [
            (("none", list(pairs(1, -1, 0))), True), (("none", list(pairs(-3, 3, 0))), True),
            (("none", list(pairs(0, 2, -1))), True),
            (("none", list(pairs(2, 0, -1))), False), (("none", list(pairs(1, 0, 0))), False),
            (("none", pairs(1, -1, 0)), False),
            (("none", list(pairs(1, -1))), False), (("none", list(pairs(1, -1, 0)), []), False),
            (("none", None), False),
            (("one", list(pairs(1))), False), (("none",), False),
            ((ECHO, list(pairs(1, -1, 0))), False), (("many", list(pairs(1)), []), False),
            (("none", [(2, 2), (-1, 1), (0, 1)]), False),
        ]:
            self.assertIs(solutions_hold(none, right, value), holds, value)

    def test_refusals(self):
        for value in NO_NUMBERS:
            with self.subTest(value=value):
                self.refused(InvalidTable, value, rank, value)
                self.refused(InvalidTable, value, solutions, value, [None])
                self.refused(InvalidTable, value, solutions_hold, value, [None], None)
        for value in NO_RIGHT:
            with self.subTest(value=value):
                self.refused(InvalidFraction, value, solutions, [[(1, 1)]], [(1, 2), value, (2, 2)])
                self.refused(InvalidFraction, value, solutions_hold, right=[value], numbers=[[(1, 1)], [(1, 1)]],
                    value=None)
        self.refused(Unlike, 2, solutions, [[(1, 1)], [(1, 1)]], [(1, 1)])
        self.refused(Unlike, 1, solutions, [[(1, 1)]], [(1, 1), (1, 1)])
        self.refused(Unlike, 1, solutions_hold, [[(1, 1)]], [], ("one", [(1, 1)]))


if __name__ == "__main__":
    unittest.main()
