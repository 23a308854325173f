import unittest
from fractions import Fraction
from itertools import product as choices

from caskyears.deeds import is_deed, run
from caskyears.errors import BadCask, BadDregs, BadPours, BadRanges, BadRooms, InvalidCellar
from caskyears.fills import is_cellar, size
from caskyears.pours import as_deeds, cut_at, cut_sizes, gone, may_be_cut, poured, size_between, sizes_for
from tests.helper import ECHO, LONG, LONGER, NONE_OF_ANY, ODD, Case, drawing, fill, number, pair, pairs, some_cellar
from tests.test_fills import NO_CELLARS, NO_KINDS

HALF = (1, 2)
RED, WHITE = fill(red=6), fill(white=2)
CELLAR, ROOMS, DREGS = (RED, WHITE), pairs(8, 4), pairs(1, 0)
NO_AMOUNTS = NONE_OF_ANY + [(-1, 2), (2, 4), (1, 0), [1, 2], (True, 1)]
NO_ROOMS = NONE_OF_ANY + [
    (), list(ROOMS), ((8, 1), (0, 1)), ((8, 1), (-1, 1)), ((8, 1), (2, 4)), ((8, 1), None), ((True, 1), (8, 1)),
    ((8, 1),) * 9, {0: (8, 1)}, (8, 1), ((8, 1), [4, 1]),
]
NO_DREGS = NONE_OF_ANY + [
    (), list(DREGS), pairs(1), pairs(0, 0, 0), pairs(9, 0), pairs(0, 5), pairs(-1, 0), ((2, 4), (0, 1)), ((0, 1), None),
    ((True, 1), (0, 1)), {0: (0, 1)}, (0, 1), pairs(0, Fraction(4 * LONG + 1, LONG)),
]
NO_RANGES = NONE_OF_ANY + [
    (), (pairs(0, 8),), [pairs(0, 8), pairs(0, 4)], (pairs(0, 8), list(pairs(0, 4))), (pairs(0, 8), pairs(0, 5)),
    (pairs(0, 8), pairs(2, 1)), (pairs(0, 8), pairs(-1, 1)), (pairs(0, 8), pairs(1)), (pairs(0, 8), pairs(0, 1, 2)),
    (pairs(0, 8), ((0, 1), None)), (pairs(0, 8), ((2, 4), (1, 1))), (pairs(0, 8), None), (pairs(0, 8),) * 3,
    (pairs(0, 9), pairs(0, 4)), (pairs(0, 8), ((True, 1), (2, 1))), {0: pairs(0, 8)},
]
NO_POURS = NONE_OF_ANY + [
    (), ["tap", 0, HALF], ("pour", 0, 1), ("pour", 0, 0, HALF), ("pour", 0, 2, HALF), ("pour", -1, 0, HALF),
    ("pour", True, 0, HALF), ("pour", 0, 1, (-1, 2)), ("pour", 0, 1, (2, 4)), ("pour", 0, 1, None),
    ("pour", 0, 1, HALF, HALF), ("pour", 0, HALF), ("till", 0, 0), ("till", 0, 2), ("till", 0), ("till", 0, 1, HALF),
    ("till", 0, None), ("rack", 0, 0), ("rack", 2, 0), ("rack", 0, True), ("rack", 0, 1, HALF), ("tap", 0), ("tap",
    2, HALF),
    ("tap", 0, (-1, 2)), ("tap", 0, 1, HALF), ("tap", 0, 1), ("top", 0, "red"), ("top", 2, "red", HALF),
    ("top", 0, "Red", HALF), ("top", 0, "", HALF), ("top", 0, None, HALF), ("top", 0, "red", (-1, 2)),
    ("top", 0, "red", None), ("top", 0, "red", HALF, 1), ("top", 0, HALF), ("Pour", 0, 1, HALF), (ECHO, 0, 1, HALF),
    (ECHO, 0, 1), (b"tap", 0, HALF), (None, 0, HALF), ("move", 0, 1, HALF), ("draw", 0, HALF), (ODD, 0, HALF),
    ("top", 0, ["red"], HALF), ("tap", 0, [1, 2]), ("pour", 0, [1], HALF), "tap", {"tap": 0}, ("empty", 0, 1),
]


def work(cellar, rooms, dregs, pours):
    """Return the dicts of what is in each cask behind pours, and the list of what each one moved."""
    casks, moved = [{kind: number(much) for kind, much in inside} for inside in cellar], []
    for entry in pours:
        here, size_here = casks[entry[1]], sum(casks[entry[1]].values())
        room_here = number(rooms[entry[1]]) - size_here
        if entry[0] == "top":
            much = min(number(entry[3]), room_here)
            here[entry[2]] = here.get(entry[2], 0) + much
        else:
            there = casks[entry[2]] if entry[0] != "tap" else {}
            room = number(rooms[entry[2]]) - sum(there.values()) if entry[0] != "tap" else size_here
            most = {"pour": size_here, "till": size_here, "tap": size_here,
                "rack": max(Fraction(0), size_here - number(dregs[entry[1]]))}[entry[0]]
            much = min(most, room)
            if entry[0] in ("pour", "tap"):
                much = min(much, number(entry[-1]))
            for kind in list(here):
                goes = here[kind] * much / size_here if size_here else Fraction(0)
                here[kind] -= goes
                there[kind] = there.get(kind, 0) + goes
        moved.append(much)
    return casks, moved


def some_rooms(draw, cellar):
    """Return rooms that are above the sizes, or just as great."""
    return pairs(*[number(size(inside)) + draw.choice([0, 1, Fraction(1, 2)]) if inside else draw.randrange(1, 4)
        for inside in cellar])


def some_amounts_below(draw, rooms):
    """Return an amount for each room, at most as great."""
    return pairs(*[number(room) * Fraction(draw.randrange(4), draw.choice([3, 6])) for room in rooms])


def some_pours(draw, casks, many, words=("pour", "till", "rack", "tap", "top")):
    """Return pours of any words, some of them of nothing."""
    found = []
    for _ in range(many):
        word = draw.choice(words if casks > 1 else [word for word in words if word in ("tap", "top")])
        one, *others = draw.sample(range(casks), min(casks, 2))
        much = pair(Fraction(draw.randrange(6), draw.randrange(1, 4)))
        found.append({"tap": ("tap", one, much), "top": ("top", one, draw.choice(["a", "z"]), much)}.get(word)
            or (word, one, *others) + ((much,) if word == "pour" else ()))
    return tuple(found)


class Pours(Case, unittest.TestCase):
    def test_by_going_through(self):
        draw = drawing(181)
        cut = 0
        for casks in [1, 2, 3, 5, 8] * 12:
            cellar = some_cellar(draw, casks, kinds="abz")
            rooms = some_rooms(draw, cellar)
            dregs, pours = some_amounts_below(draw, rooms), some_pours(draw, casks, draw.randrange(12))
            inside, moved = work(cellar, rooms, dregs, pours)
            wanted = tuple(fill(**{kind: much for kind, much in cask.items() if much}) for cask in inside)
            self.assertEqual(poured(cellar, rooms, dregs, pours), wanted)
            self.assertEqual(gone(cellar, rooms, dregs, pours), pairs(*moved))
            short = [at for at, entry in enumerate(pours) if entry[0] in ("pour", "tap", "top")
                and moved[at] < number(entry[-1])]
            self.assertEqual(self.all_new(cut_at, cellar, rooms, dregs, pours), short)
            cut += len(short)
            deeds = as_deeds(cellar, rooms, dregs, pours)
            self.assertIs(type(deeds), tuple)
            self.assertTrue(all(is_deed(deed) for deed in deeds))
            words = [{"top": "add", "tap": "draw"}.get(entry[0], "move") for entry, much in zip(pours, moved) if much]
            self.assertEqual([deed[0] for deed in deeds], words)
            self.assertEqual(run(cellar, list(deeds))[-1], wanted)
            self.assertTrue(is_cellar(wanted))
        self.assertGreater(cut, 40)

    def test_edges(self):
        self.assertEqual(cut_at(CELLAR, ROOMS, DREGS, (("pour", 0, 1, (2, 1)),)), [])
        just_more = pair(2 + Fraction(1, LONGER))
        self.assertEqual(cut_at(CELLAR, ROOMS, DREGS, (("pour", 0, 1, just_more),)), [0])
        self.assertEqual(cut_at(CELLAR, ROOMS, DREGS, (("tap", 1, (2, 1)), ("tap", 1, (0, 1)))), [])
        self.assertEqual(cut_at(CELLAR, ROOMS, DREGS, (("tap", 1, just_more), ("tap", 1, HALF))), [0, 1])
        self.assertEqual(cut_at(CELLAR, ROOMS, DREGS, (("top", 0, "a", (2, 1)), ("top", 0, "a", HALF))), [1])
        self.assertEqual(gone(CELLAR, ROOMS, DREGS, (("rack", 0, 1), ("rack", 0, 1))), pairs(2, 0))
        self.assertEqual(gone(CELLAR, ROOMS, pairs(7, 0), (("rack", 0, 1), ("till", 1, 0))), pairs(0, 2))
        self.assertEqual(gone(CELLAR, ROOMS, pairs(6, 0), (("rack", 0, 1),)), pairs(0))
        self.assertEqual(gone(CELLAR, ROOMS, pairs(5, 0), (("rack", 0, 1),)), pairs(1))
        self.assertEqual(poured(CELLAR, ROOMS, DREGS, ()), CELLAR)
        self.assertEqual([gone(CELLAR, ROOMS, DREGS, ()), as_deeds(CELLAR, ROOMS, DREGS, ())], [(), ()])
        self.assertEqual(as_deeds(CELLAR, ROOMS, DREGS, (("till", 0, 1), ("till", 0, 1), ("top", 0, "z", (1, 1)))),
            (("move", 0, 1, (1, 3)), ("add", 0, fill(z=1))))
        self.assertEqual(poured(pours=(("till", 1, 0),), dregs=DREGS, rooms=ROOMS, cellar=CELLAR),
            (fill(red=6, white=2), ()))
        self.assertEqual(gone(pours=(("tap", 0, (9, 1)),), dregs=DREGS, rooms=ROOMS, cellar=CELLAR), pairs(6))
        self.assertEqual(poured(((), ()), ROOMS, DREGS, (("till", 0, 1), ("rack", 1, 0))), ((), ()))

    def test_long_numbers(self):
        near = Fraction(LONG, LONGER)
        cellar = tuple(fill(a=near, z=1) for _ in range(8))
        pours = tuple(("pour", at % 8, (at + 3) % 8, pair(near / (at + 2))) for at in range(24))
        rooms, dregs = pairs(*[3] * 8), pairs(*[0] * 8)
        inside, moved = work(cellar, rooms, dregs, pours)
        self.assertEqual(gone(cellar, rooms, dregs, pours), pairs(*moved))
        self.assertEqual(poured(cellar, rooms, dregs, pours), tuple(fill(**cask) for cask in inside))


def one_kind(sizes):
    """Return the cellar of one kind with these sizes."""
    return tuple(fill(a=much) if much else () for much in sizes)


def grid(ranges):
    """Return a list of sizes within ranges: lows, highs and what is between."""
    spans = [sorted({number(low), (number(low) + 2 * number(high)) / 3, number(high)}) for low, high in ranges]
    return list(choices(*spans))


def some_ranges(draw, rooms):
    """Return ranges within rooms, some of one size."""
    found = []
    for room in rooms:
        ends = sorted([number(room) * Fraction(draw.randrange(5), 4), number(room) * Fraction(draw.randrange(5), 4)])
        found.append(pairs(*ends) if draw.random() < 0.8 else pairs(ends[0], ends[0]))
    return tuple(found)


class Ranges(Case, unittest.TestCase):
    def test_what_may_be_cut(self):
        draw = drawing(182)
        seen = {}
        for casks in [1, 2, 3, 4] * 30:
            rooms = pairs(*[draw.randrange(2, 9) for _ in range(casks)])
            ranges = some_ranges(draw, rooms)
            pours = some_pours(draw, casks, draw.randrange(1, 6), words=("pour", "tap", "top"))
            pours = tuple(entry[:-1] + (pair(number(entry[-1]) / 4),) for entry in pours)
            dregs = pairs(*[0] * casks)
            cuts = [cut_at(one_kind(sizes), rooms, dregs, pours) for sizes in grid(ranges)]
            wanted = min((cut[0] for cut in cuts if cut), default=None)
            self.assertEqual(may_be_cut(rooms, ranges, pours), wanted)
            seen[wanted] = seen.get(wanted, 0) + 1
            sizes = cut_sizes(rooms, ranges, pours)
            self.assertIs(sizes is None, wanted is None)
            if sizes is not None:
                self.check_within(ranges, sizes)
                self.assertIn(wanted, cut_at(one_kind(map(number, sizes)), rooms, dregs, pours))
        self.assertGreater(min(seen[None], seen[0], seen[1]), 8, seen)

    def check_within(self, ranges, sizes):
        """Check that sizes lie within ranges."""
        self.assertIs(type(sizes), tuple)
        self.assertEqual(len(sizes), len(ranges))
        for much, (low, high) in zip(sizes, ranges):
            self.assertTrue(number(low) <= number(much) <= number(high))

    def test_just_at_the_edge(self):
        ranges = (pairs(3, 6), pairs(0, 1))
        for much, wanted in ((3, None), (3 + Fraction(1, LONGER), 0), (0, None)):
            self.assertEqual(may_be_cut(ROOMS, ranges, (("pour", 0, 1, pair(much)),)), wanted)
        wider = (pairs(3, 6), pairs(0, Fraction(LONG + 1, LONG)))
        self.assertEqual(may_be_cut(ROOMS, wider, (("pour", 0, 1, (3, 1)),)), 0)
        ahead = (("tap", 0, (1, 1)), ("top", 1, "z", (3, 1)))
        self.assertEqual(may_be_cut(ROOMS, ranges, ahead), None)
        self.assertEqual(may_be_cut(ROOMS, ranges, ahead + (("tap", 0, (2, 1)), ("top", 1, "z", (0, 1)))), None)
        self.assertEqual(may_be_cut(ROOMS, ranges, ahead + (("tap", 0, (2, 1)), ("tap", 0, (1, LONG)))), 3)
        self.assertEqual(may_be_cut(ROOMS, ranges, ahead + (("tap", 1, (3, 1)), ("tap", 1, (1, LONG)))), 3)
        self.assertEqual(may_be_cut(pours=ahead + (("top", 1, "a", HALF),), ranges=ranges, rooms=ROOMS), 2)
        self.assertEqual(cut_sizes(pours=ahead + (("top", 1, "a", HALF),), ranges=ranges, rooms=ROOMS)[1], (1, 1))
        self.assertEqual(may_be_cut(ROOMS, ranges, ()), None)
        self.assertEqual(cut_sizes(ROOMS, ranges, ()), None)

    def test_sizes_between(self):
        draw = drawing(183)
        for casks in [1, 2, 3, 4] * 25:
            rooms = pairs(*[draw.randrange(2, 9) for _ in range(casks)])
            ranges, dregs = some_ranges(draw, rooms), some_amounts_below(draw, rooms)
            pours = some_pours(draw, casks, draw.randrange(7))
            behind = [work(one_kind(sizes), rooms, dregs, pours)[0] for sizes in grid(ranges)]
            for cask in range(casks):
                wholes = [sum(inside[cask].values()) for inside in behind]
                self.assertEqual(size_between(rooms, dregs, ranges, pours, cask), pairs(min(wholes), max(wholes)))
                for greatest, wanted in ((True, max(wholes)), (False, min(wholes))):
                    sizes = sizes_for(rooms, dregs, ranges, pours, cask, greatest)
                    self.check_within(ranges, sizes)
                    inside = work(one_kind(map(number, sizes)), rooms, dregs, pours)[0]
                    self.assertEqual(sum(inside[cask].values()), wanted)
        ranges = (pairs(0, 8), pairs(4, 4))
        self.assertEqual(size_between(cask=1, pours=(), ranges=ranges, dregs=DREGS, rooms=ROOMS), pairs(4, 4))
        self.assertEqual(sizes_for(greatest=True, cask=0, pours=(), ranges=ranges, dregs=DREGS, rooms=ROOMS),
            pairs(8, 4))


class Refusals(Case, unittest.TestCase):
    def test_cellars_and_rooms(self):
        for function in (poured, gone, cut_at, as_deeds):
            for value in NO_CELLARS:
                with self.subTest(value=value):
                    self.refused(InvalidCellar, value, function, value, None, None, None)
            for value in NO_ROOMS + [pairs(8), pairs(8, 4, 4)]:
                with self.subTest(value=value):
                    self.refused(BadRooms, value, function, CELLAR, value, None, None)
            for rooms in (pairs(5, 4), pairs(8, Fraction(2 * LONG - 1, LONG))):
                self.refused(InvalidCellar, CELLAR, function, CELLAR, rooms, None, None)
            for value in NO_DREGS:
                with self.subTest(value=value):
                    self.refused(BadDregs, value, function, CELLAR, ROOMS, value, None)
            self.check_pours(function, CELLAR, ROOMS, DREGS)

    def check_pours(self, function, *ahead, behind=()):
        """Check that what is no pours is refused, behind other arguments."""
        for value in NO_POURS:
            with self.subTest(value=value):
                self.refused(BadPours, 0, function, *ahead, (value,), *behind)
                self.refused(BadPours, 1, function, *ahead, (("tap", 0, HALF), value, None), *behind)
        for value in NONE_OF_ANY + [[], [("tap", 0, HALF)], {0: ("tap", 0, HALF)}]:
            with self.subTest(value=value):
                self.refused(BadPours, 0 if isinstance(value, tuple) else value, function, *ahead, value, *behind)
        for kind in NO_KINDS:
            self.refused(BadPours, 0, function, *ahead, (("top", 0, kind, HALF),), *behind)
        for much in NO_AMOUNTS:
            self.refused(BadPours, 1, function, *ahead, (("tap", 0, HALF), ("pour", 0, 1, much)), *behind)

    def test_ranges(self):
        ranges = (pairs(0, 8), pairs(1, 2))
        for function in (may_be_cut, cut_sizes):
            for value in NO_ROOMS:
                with self.subTest(value=value):
                    self.refused(BadRooms, value, function, value, None, None)
            for value in NO_RANGES:
                with self.subTest(value=value):
                    self.refused(BadRanges, value, function, ROOMS, value, None)
            self.check_pours(function, ROOMS, ranges)
            self.refused(BadPours, 1, function, ROOMS, ranges, (("tap", 0, HALF), ("till", 0, 1), None))
            self.refused(BadPours, 0, function, ROOMS, ranges, (("rack", 0, 1),))

    def test_sizes(self):
        ranges = (pairs(0, 8), pairs(1, 2))
        for function, more in ((size_between, ()), (sizes_for, (True,))):
            for value in NO_ROOMS:
                with self.subTest(value=value):
                    self.refused(BadRooms, value, function, value, None, None, None, -1, *more)
            for value in NO_DREGS:
                with self.subTest(value=value):
                    self.refused(BadDregs, value, function, ROOMS, value, None, None, -1, *more)
            for value in NO_RANGES:
                with self.subTest(value=value):
                    self.refused(BadRanges, value, function, ROOMS, DREGS, value, None, -1, *more)
            self.check_pours(function, ROOMS, DREGS, ranges, behind=(-1, *more))
            for value in (-1, 2, 10**40, None, "0", (0,), [0], True):
                self.refused(BadCask, value, function, ROOMS, DREGS, ranges, (), value, *more)


if __name__ == "__main__":
    unittest.main()
