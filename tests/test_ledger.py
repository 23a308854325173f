import unittest
from fractions import Fraction

from caskyears.errors import BadBook, BadStory, InvalidNumber
from caskyears.ledger import bare_lines, book_of, held, sizes, story_of, totals
from tests.helper import ECHO, LONG, NONE_OF_ANY, ODD, Case, drawing, fill, number, pair, pairs
from tests.test_deeds import NO_DEEDS, filled, some_deeds, work

HALF = (1, 2)
BOOK = (("in", 0, "red", (4, 1)), ("move", 0, 1, (3, 1)), ("out", 1, HALF), ("loss", 0, (2, 1)), ("loss", 0, (1, 1)))
OPEN_LINES = NONE_OF_ANY + [
    (), ["in", 0, "red", HALF], ("in", 0, HALF), ("in", 0, "red"), ("in", 0, "Red", HALF), ("in", 0, None, HALF),
    ("in", -1, "red", HALF), ("in", True, "red", HALF), ("in", 0, "red", HALF, HALF), ("in", 0, ECHO, HALF),
    ("in", "red", 0, HALF),
    ("move", 0, 0, HALF), ("move", 0, HALF), ("move", 0, -1, HALF), ("move", -1, 0, HALF), ("move", 0, True, HALF),
    ("move", 0, 1, 2, HALF), ("move", 0, None, HALF), ("out", -1, HALF), ("out", 0, 1, HALF), ("out", None, HALF),
    ("out", False, HALF),
    ("out", 0, "red", HALF), ("loss", -1, HALF), ("loss", 0, "red", HALF), ("Out", 0, HALF), ("draw", 0, HALF),
    ("", 0, HALF),
    (b"out", 0, HALF), (None, 0, HALF), (ECHO, 0, HALF), (ODD, 0, "red", HALF), (["out"], 0, HALF), {"out": 0},
    ("out", 0),
]
BAD_AMOUNTS = [(0, 1), (-1, 2), (2, 4), 1, [1, 2], "1", (True, 1), ECHO, ODD, (1,), (1, 0)]
NO_LINES = OPEN_LINES + [line + (much,) for much in BAD_AMOUNTS + [None]
    for line in (("in", 0, "red"), ("move", 0, 1), ("out", 0), ("loss", 1))] + [("seen", 0, HALF)]
FAR_LINES = [("in", 2, "red", HALF), ("move", 0, 2, HALF), ("move", 2, 0, HALF), ("out", 2, HALF),
    ("loss", 10**50, HALF)]


def some_book(draw, casks, many):
    """Return a book of small amounts, some lines of which are bare or take just what there is."""
    book, inside = [], [Fraction(0)] * casks
    for _ in range(many):
        word, cask = draw.choice(["in", "in", "move", "out", "loss"]), draw.randrange(casks)
        much = draw.choice([inside[cask] or Fraction(1), Fraction(draw.randrange(1, 9), draw.randrange(1, 4))])
        if word == "move" and casks > 1:
            other = draw.choice([at for at in range(casks) if at != cask])
            book.append(("move", cask, other, pair(much)))
        elif word == "in":
            book.append(("in", cask, draw.choice(["red", "white", "b"]), pair(much)))
        else:
            book.append(("out" if word == "move" else word, cask, pair(much)))
        if word == "in":
            inside[cask] += much
        elif inside[cask] >= much:
            inside[cask] -= much
            if book[-1][0] == "move":
                inside[book[-1][2]] += much
    return tuple(book)


def by_hand(casks, book):
    """Return the list of dicts behind each line, worked kind by kind, and the bare lines."""
    inside, found, bare = [{} for _ in range(casks)], [], []
    for at, line in enumerate(book):
        word, cask, much = line[0], line[1], number(line[-1])
        whole = sum(inside[cask].values(), Fraction(0))
        if word == "in":
            inside[cask][line[2]] = inside[cask].get(line[2], Fraction(0)) + much
        elif whole < much:
            bare.append(at)
        else:
            for kind, there in list(inside[cask].items()):
                inside[cask][kind] = there - there * much / whole
                if word == "move":
                    inside[line[2]][kind] = inside[line[2]].get(kind, Fraction(0)) + there * much / whole
        found.append([dict(entry) for entry in inside])
    return found, bare


class Ledger(Case, unittest.TestCase):
    def test_books_line_by_line(self):
        draw, seen = drawing(351), {"bare": 0, "whole": 0}
        for at in range(150):
            casks = 1 + at % 4
            book = some_book(draw, casks, draw.randrange(9))
            found, bare = by_hand(casks, book)
            self.assertEqual(bare_lines(casks, book), bare)
            self.assertEqual(held(casks, book), filled(found[-1] if book else [{}] * casks))
            wanted = [tuple(pair(sum(inside.values(), Fraction(0))) for inside in stage) for stage in found]
            self.assertEqual(sizes(casks, book), wanted)
            sums = [sum((number(line[-1]) for line in book if line[0] == word), Fraction(0))
                for word in ("in", "out", "loss")]
            self.assertEqual(totals(book), pairs(*sums))
            if not bare:
                self.assertEqual(sums[0], sums[1] + sums[2] + sum(map(number, wanted[-1] if wanted else [])))
            seen["bare" if bare else "whole"] += 1
            self.check_stories(casks, book, bare)
        self.assertGreater(min(seen.values()), 30, seen)

    def check_stories(self, casks, book, bare):
        """Check that stories and books tell of each other."""
        story = story_of(casks, book)
        words = {"in": "add", "move": "move", "out": "draw", "loss": "keep"}
        self.assertEqual([entry[0] for entry in story], [words[line[0]] for at, line in enumerate(book)
            if at not in bare])
        inside = [{} for _ in range(casks)]
        for entry in story:
            inside = work(inside, entry)[0]
        self.assertEqual(filled(inside), held(casks, book))
        again = book_of(casks, story)
        self.assertEqual(again, tuple(line for at, line in enumerate(book) if at not in bare))
        self.assertEqual(held(casks, again), held(casks, book))

    def test_books_of_stories(self):
        draw = drawing(352)
        for at in range(80):
            casks = 1 + at % 4
            story = tuple(deed for deed in some_deeds(draw, casks, draw.randrange(12)) if deed[0] != "swap")
            book, inside = book_of(casks, story), [{} for _ in range(casks)]
            for entry in story:
                inside = work(inside, entry)[0]
            self.assertEqual(held(casks, book), filled(inside))
            self.assertEqual(bare_lines(casks, book), [])
        told = (("add", 0, fill(red=1, white=2)), ("keep", 0, HALF), ("add", 1, ()), ("move", 0, 1, (0, 1)),
            ("draw", 1, HALF),
            ("move", 0, 1, (1, 3)), ("keep", 1, (1, 1)), ("draw", 0, (0, 1)), ("draw", 0, (1, 1)), ("keep", 0, (0, 1)))
        self.assertEqual(book_of(story=told, count=2), (("in", 0, "red", (1, 1)), ("in", 0, "white", (2, 1)), ("loss",
            0, (3, 2)),
            ("move", 0, 1, HALF), ("out", 0, (1, 1))))

    def test_edges(self):
        self.assertEqual(bare_lines(book=BOOK, count=2), [3])
        self.assertEqual(held(book=BOOK, count=2), ((), fill(red=Fraction(5, 2))))
        self.assertEqual(sizes(book=BOOK, count=2)[2:], [pairs(1, Fraction(5, 2)), pairs(1, Fraction(5, 2)), pairs(0,
            Fraction(5, 2))])
        self.assertEqual(totals(book=BOOK), pairs(4, Fraction(1, 2), 3))
        self.assertEqual(story_of(book=BOOK, count=2), (("add", 0, fill(red=4)), ("move", 0, 1, (3, 4)), ("draw", 1, (1,
            6)),
            ("keep", 0, (0, 1))))
        self.assertEqual([bare_lines(1, ()), held(2, ()), sizes(1, ()), totals(()), story_of(8, ()), book_of(8, ())],
            [[], ((), ()), [], pairs(0, 0, 0), (), ()])
        self.assertEqual(totals(FAR_LINES and tuple(FAR_LINES)), pairs(Fraction(1, 2), Fraction(1, 2), Fraction(1, 2)))
        just = (("in", 0, "a", pair(LONG, 3)), ("out", 0, pair(LONG, 3)), ("out", 0, pair(1, LONG)))
        self.assertEqual(bare_lines(1, just), [2])
        self.assertEqual(sizes(1, just), [pairs(Fraction(LONG, 3)), pairs(0), pairs(0)])
        self.all_new(sizes, 2, BOOK)
        self.all_new(bare_lines, 2, BOOK)

    def test_at_the_limits(self):
        draw, far = drawing(353), 10**30
        much = [pair(Fraction(draw.randrange(far // 2, far), draw.randrange(1, far // 9))) for _ in range(24)]
        book = [("in", at, kind, much[at]) for at, kind in enumerate("abcdefgh")]
        for at in range(8, 24):
            word = draw.choice(["move", "out", "loss"])
            book.append((word, *draw.sample(range(8), 2 if word == "move" else 1), pair(number(much[at]) / far)))
        found, bare = by_hand(8, book)
        self.assertEqual(held(8, tuple(book)), filled(found[-1]))
        self.assertEqual(bare_lines(8, tuple(book)), bare)
        self.assertEqual(held(8, book_of(8, story_of(8, tuple(book)))), held(8, tuple(book)))


class Refusals(Case, unittest.TestCase):
    def test_counts(self):
        for function in (bare_lines, held, sizes, story_of, book_of):
            for count in (0, -1, 9, 10**50):
                self.refused(InvalidNumber, count, function, count, None)

    def test_books(self):
        calls = [(function, (2,)) for function in (bare_lines, held, sizes, story_of)] + [(totals, ())]
        for function, ahead in calls:
            for value in NO_LINES + (FAR_LINES if ahead else []):
                with self.subTest(value=value):
                    self.refused(BadBook, 0, function, *ahead, (value,))
                    self.refused(BadBook, 1, function, *ahead, (BOOK[0], value, None))
            for value in NONE_OF_ANY + [[], list(BOOK), {0: BOOK[0]}]:
                self.refused(BadBook, 0 if isinstance(value, tuple) else value, function, *ahead, value)

    def test_stories(self):
        for value in NO_DEEDS + [("swap", 0, 1, HALF), ("swap", 0, 1, (0, 1)), ("draw", 2, HALF), ("add", 2, ()),
            ("move", 0, 2, HALF)]:
            with self.subTest(value=value):
                self.refused(BadStory, 0, book_of, 2, (value, None))
                self.refused(BadStory, 1, book_of, 2, (("add", 0, ()), value, ("swap", 0, 1, HALF)))
        for value in NONE_OF_ANY + [[], {0: ()}]:
            self.refused(BadStory, 0 if isinstance(value, tuple) else value, book_of, 2, value)


if __name__ == "__main__":
    unittest.main()
