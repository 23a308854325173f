"""What the tests share: fractions of Python's own, inputs drawn from a fixed seed, and a check of errors."""

import copy
import random
from fractions import Fraction

from caskyears.errors import CaskError

LONG = 10**39 + 7
LONGER = 10**40 - 1
PRIME = 2**61 - 1


def pair(number, below=1):
    """Return a number as a fraction of the package."""
    number = Fraction(number, below) if below != 1 else Fraction(number)
    return number.numerator, number.denominator


def number(pair_of):
    """Return a fraction of the package as one of Python's own."""
    return Fraction(*pair_of)


def pairs(*numbers):
    """Return a tuple of fractions of the package."""
    return tuple(pair(entry) for entry in numbers)


def table(*rows):
    """Return a table of rows of numbers."""
    return tuple(pairs(*row) for row in rows)


def fill(**amounts):
    """Return a fill of numbers by kinds."""
    return tuple((kind, pair(amounts[kind])) for kind in sorted(amounts))


def drawing(seed):
    """Return a source of inputs that draws the same ones in each run."""
    return random.Random(seed)


def some_table(draw, casks, loss=True, holes=0.3, most=6):
    """Return a table of small fractions."""
    columns = []
    for _ in range(casks):
        parts = [0 if draw.random() < holes else draw.randrange(1, most) for _ in range(casks)]
        lost = draw.randrange(1, most) if loss and draw.random() < 0.5 else 0
        whole = sum(parts) + lost
        columns.append([Fraction(part, whole) if whole else Fraction(0) for part in parts])
        if not whole and not loss:
            columns[-1][draw.randrange(casks)] = Fraction(1)
    return table(*[[columns[source][goal] for source in range(casks)] for goal in range(casks)])


def some_cellar(draw, casks, kinds="abc", most=6):
    """Return a cellar of small fractions, some casks empty."""
    fills = []
    for _ in range(casks):
        inside = [kind for kind in kinds if draw.random() < 0.6]
        fills.append(fill(**{kind: Fraction(draw.randrange(1, most), draw.randrange(1, most)) for kind in inside}))
    return tuple(fills)


def some_recipe(draw, casks, many):
    """Return a recipe of small shares, 0 and 1 among them."""
    deeds = []
    for _ in range(many):
        word = draw.choice(["move", "swap", "draw", "keep"] if casks > 1 else ["draw", "keep"])
        places = draw.sample(range(casks), 2 if word in ("move", "swap") else 1)
        below = draw.randrange(1, 5)
        deeds.append((word, *places, pair(Fraction(draw.randrange(below + 1), below))))
    return tuple(deeds)


def matrix(of_table):
    """Return the rows of a table, or of any rows of fractions, as lists of Python's fractions."""
    return [[number(entry) for entry in row] for row in of_table]


def product(one, other):
    """Return the product of two matrices, the other one done first."""
    return [[sum(x * y for x, y in zip(row, column)) for column in zip(*other)] for row in one]


def rank_by_rows(rows):
    """Return the rank of rows of Python's fractions."""
    rows, rank = [list(row) for row in rows], 0
    for column in range(len(rows[0])):
        at = next((at for at in range(rank, len(rows)) if rows[at][column]), None)
        if at is not None:
            rows[rank], rows[at] = rows[at], rows[rank]
            for other in range(rank + 1, len(rows)):
                factor = rows[other][column] / Fraction(rows[rank][column])
                rows[other] = [x - factor * y for x, y in zip(rows[other], rows[rank])]
            rank += 1
    return rank


def unit(casks):
    """Return the matrix that leaves all as it is."""
    return [[Fraction(row == column) for column in range(casks)] for row in range(casks)]


def amounts_of(cellar, kind):
    """Return the list of the amounts of a kind in each cask."""
    return [sum((number(much) for name, much in inside if name == kind), Fraction(0)) for inside in cellar]


def some_row(draw, stages):
    """Return a row of small shares, some of them 1."""
    shares = []
    for _ in range(stages):
        below = draw.randrange(1, 6)
        shares.append(Fraction(draw.randrange(1, below + 1), below))
    return pairs(*shares)


def some_yearly(draw, casks, holes=0.4, loss=True):
    """Return a yearly cellar of small numbers, some of them 0, some shares 1."""
    into = [Fraction(draw.randrange(4), draw.randrange(1, 4)) if draw.random() < 0.6 else 0 for _ in range(casks)]
    tap = [draw.choice([Fraction(0), Fraction(1, 2), Fraction(1, 3), Fraction(1)]) for _ in range(casks)]
    if draw.random() < 0.4:
        tap = [0] * casks
        tap[draw.randrange(casks)] = Fraction(1, 2)
    return some_table(draw, casks, holes=holes, loss=loss), pairs(*into), pairs(*tap)


def work_row(row, last):
    """Return a list, year by year, of the tap and the stages, each a dict of amounts by years of wine."""
    shares = [number(share) for share in row]
    inside = [{} for _ in shares]
    inside[0][0] = Fraction(1)
    found = [({}, [dict(stage) for stage in inside])]
    for year in range(1, last + 1):
        glass = {}
        for stage in range(len(shares) - 1, -1, -1):
            goal = glass if stage == len(shares) - 1 else inside[stage + 1]
            for wine in list(inside[stage]):
                goes = inside[stage][wine] * shares[stage]
                inside[stage][wine] -= goes
                goal[wine] = goal.get(wine, Fraction(0)) + goes
        inside[0][year] = inside[0].get(year, Fraction(0)) + 1
        found.append((glass, [dict(stage) for stage in inside]))
    return found


def work_yearly(yearly, last):
    """Return a list, year by year, of the glass and the casks, each a dict of amounts by years of wine."""
    rows, into, tap = [[number(entry) for entry in row] for row in yearly[0]], yearly[1], yearly[2]
    inside = [{0: number(much)} for much in into]
    found = [({}, [dict(cask) for cask in inside])]
    for year in range(1, last + 1):
        glass = {}
        for cask, share in zip(inside, tap):
            for wine in cask:
                goes = cask[wine] * number(share)
                cask[wine] -= goes
                glass[wine] = glass.get(wine, Fraction(0)) + goes
        wines = list(inside[0])
        inside = [
            {wine: sum(row[at] * inside[at][wine] for at in range(len(inside))) for wine in wines} for row in rows
        ]
        for cask, much in zip(inside, into):
            cask[year] = number(much)
        found.append((glass, [dict(cask) for cask in inside]))
    return found


def told(amounts):
    """Return the list of tuples (year, amount) of a dict, amounts above 0 alone."""
    return [(wine, pair(amounts[wine])) for wine in sorted(amounts) if amounts[wine]]


def modulo(of):
    """Return a fraction of the package by what it leaves behind a division by a prime, so that long ones compare."""
    return of[0] * pow(of[1], -1, PRIME) % PRIME


def work_by_prime(step, start, years):
    """Return the lists of what is in the casks, year by year, as what they leave behind a division by a prime."""
    rows = [[modulo(entry) for entry in row] for row in step]
    found = [[modulo(entry) for entry in start]]
    for _ in range(years):
        found.append([sum(x * y for x, y in zip(row, found[-1])) % PRIME for row in rows])
    return found


def long_row(draw, stages):
    """Return a row of shares with many digits."""
    return pairs(*[Fraction(draw.randrange(LONG // 9, LONG), draw.randrange(LONG, LONGER)) for _ in range(stages)])


def long_yearly(draw, casks):
    """Return a yearly cellar of numbers with many digits."""
    columns = []
    for _ in range(casks):
        parts = [draw.randrange(LONG) for _ in range(casks)]
        whole = sum(parts) + draw.randrange(LONG)
        columns.append([Fraction(part, whole) for part in parts])
    rows = table(*[[columns[source][goal] for source in range(casks)] for goal in range(casks)])
    into = pairs(*[Fraction(draw.randrange(LONG), LONGER) for _ in range(casks)])
    return rows, into, pairs(*[Fraction(draw.randrange(LONG // 9), LONG) for _ in range(casks)])


def end_of_aim(number, rows, aim):
    """Return how great the aim may be in rows of numbers at most a bound: "none", "endless" or a number.

    One unknown after the other is taken out by adding up rows, until the aim alone is left.
    """
    left = [(list(factors) + [0], bound) for factors, bound in rows]
    left.append(([-factor for factor in aim] + [1], Fraction(0)))
    for at in range(number):
        lows = [row for row in left if row[0][at] < 0]
        highs = [row for row in left if row[0][at] > 0]
        found = [row for row in left if row[0][at] == 0]
        for low, low_bound in lows:
            for high, high_bound in highs:
                one, other = high[at], -low[at]
                added = [one * x + other * y for x, y in zip(low, high)]
                found.append((added, one * low_bound + other * high_bound))
        left = without_needless(found)
    if any(not any(factors) and bound < 0 for factors, bound in left):
        return "none"
    ends = [bound / Fraction(factors[-1]) for factors, bound in left if factors[-1] > 0]
    return min(ends) if ends else "endless"


def without_needless(rows):
    """Return rows of numbers, of those with the same factors but for how often they are taken the least bound alone."""
    least = {}
    for factors, bound in rows:
        scale = Fraction(1) / next((abs(factor) for factor in factors if factor), 1)
        key = tuple(scale * factor for factor in factors)
        least[key] = min(least.get(key, scale * bound), scale * bound)
    return [(list(key), bound) for key, bound in least.items()]


def lists_in(value):
    """Return a list of all lists in an object, through lists and tuples."""
    found = [value] if isinstance(value, list) else []
    if isinstance(value, (list, tuple)):
        for entry in value:
            found.extend(lists_in(entry))
    return found


def tuples_in(value):
    """Return a list of all tuples in an object but those of nothing, through lists and tuples."""
    found = [value] if isinstance(value, tuple) and value else []
    if isinstance(value, (list, tuple)):
        for entry in value:
            found.extend(tuples_in(entry))
    return found


class Odd:
    """An object that is nothing in particular, and equal to itself alone."""


class Echo:
    """An object that says of itself that it equals everything."""

    def __eq__(self, other):
        return True

    __hash__ = None


ODD, ECHO = Odd(), Echo()

# What is no fraction, fill, cellar, table, deed, recipe, list of numbers or paper of any kind.
NONE_OF_ANY = [
    None, True, False, 0, 7, -3, "", "red", b"red", {}, {"red": (1, 1)}, set(), ODD, Odd, ECHO, ("red",), [[]], ([],),
    [None], (None,), ((), []), "move", ("none",), ("one",), ("many",), ("move",), (1, 2, 3, 4),
]


class Case:
    """Checks for the tests of each module."""

    def refused(self, error, value, function, /, *passed, **named):
        """Check that a call raises just this error, stores the value anew, and leaves what it is passed as it is."""
        ahead = copy.deepcopy([entry for entry in (*passed, *named.values()) if not has_odd(entry)])
        with self.assertRaises(CaskError) as caught:
            function(*passed, **named)
        self.assertIs(type(caught.exception), error)
        stored = caught.exception.value
        self.assertEqual(stored, value)
        self.assertEqual(kinds_in(stored), kinds_in(value))
        behind = [entry for entry in (*passed, *named.values()) if not has_odd(entry)]
        self.assertEqual(behind, ahead)
        mine, theirs = lists_in(stored), lists_in([*passed, *named.values()])
        self.assertFalse({id(entry) for entry in mine} & {id(entry) for entry in theirs})
        self.assertEqual(len({id(entry) for entry in mine}), len(mine))
        self.assertFalse({id(entry) for entry in tuples_in(stored)} & {id(entry) for entry in tuples_in([*passed])})

    def all_new(self, function, *passed):
        """Check that lists that are returned are new each time, and that a change of them changes no answer."""
        first = function(*passed)
        kept = copy.deepcopy(first)
        lists = lists_in(first)
        theirs = lists_in(list(passed))
        self.assertEqual(len({id(entry) for entry in lists}), len(lists))
        self.assertFalse({id(entry) for entry in lists} & {id(entry) for entry in theirs})
        for entry in lists:
            entry.append("changed")
        self.assertEqual(function(*passed), kept)
        return kept


def has_odd(value):
    """Return whether an object has in it what cannot be copied to an equal one."""
    if isinstance(value, (list, tuple)):
        return any(has_odd(entry) for entry in value)
    return isinstance(value, (Odd, Echo))


def kinds_in(value):
    """Return the kinds of values, through lists and tuples, so that True and 1 are told apart."""
    if isinstance(value, (list, tuple)):
        return (type(value), [kinds_in(entry) for entry in value])
    return type(value)
