import unittest
from fractions import Fraction

from caskyears.cellarbooks import read_book, show_book
from caskyears.deeds import drawn, lost, run
from caskyears.desk import Desk
from caskyears.fills import together
from caskyears.glassback import mornings
from caskyears.ledger import book_of, held, story_of
from caskyears.livecellar import Cellar
from caskyears.reading import read_cellar, read_fill
from caskyears.recipes import same_way, table_of, worked
from caskyears.scripts import plain, played, same_end, table_of as table_of_script
from caskyears.seasons import behind
from caskyears.toldback import shares_that_fit
from tests.helper import drawing, number, pair, some_cellar, some_recipe
from tests.test_deeds import some_deeds


def share_in(inside, kind):
    """Return the share of a kind in a fill that is not empty."""
    whole = sum(number(much) for _, much in inside)
    return pair(sum((number(much) for name, much in inside if name == kind), Fraction(0)) / whole)


class Whole(unittest.TestCase):
    """What one part of the program tells all other parts tell, too."""

    def test_a_recipe_is_the_same_all_ways(self):
        draw = drawing(501)
        for at in range(80):
            casks = 1 + at % 4
            fills, recipe = some_cellar(draw, casks, kinds=["red", "white"]), some_recipe(draw, casks,
                draw.randrange(7))
            ends = run(fills, recipe)[-1]
            self.assertEqual(same_way(recipe, fills), ends)
            self.assertEqual(worked(table_of(recipe, casks), fills), ends)
            self.assertEqual(table_of_script(casks, recipe), table_of(recipe, casks))
            cellar = Cellar(fills)
            gone = cellar.do_all(recipe)
            self.assertEqual([cellar.fills, cellar.left], [ends, together(list(gone))])
            self.assertEqual(cellar.left, together([drawn(fills, recipe), lost(fills, recipe)]))
            self.assertTrue(played(fills, recipe) == cellar)
            self.assertEqual(self.at_the_desk(fills, recipe), ends)
            self.check_morning(fills, recipe, ends)

    def at_the_desk(self, fills, story):
        """Return the cellar behind a story that is read from its text and done at a desk."""
        text = show_book(fills, story)
        self.assertEqual(read_book(text), (fills, story))
        first, *lines = text.split("\n")[:-1]
        desk = Desk()
        self.assertEqual(desk.execute("load\n" + first + "\n"), "ok")
        for line in lines:
            desk.execute(line)
        loaded = Desk()
        loaded.execute("load\n" + text)
        told = [desk.execute(f"cask {cask}") for cask in range(len(fills))]
        self.assertEqual([loaded.execute(f"cask {cask}") for cask in range(len(fills))], told)
        self.assertEqual(loaded.execute("left"), desk.execute("left"))
        self.assertEqual([read_fill(entry) for entry in told], list(read_cellar(" | ".join(told))))
        return tuple(read_fill(entry) for entry in told)

    def check_morning(self, fills, recipe, ends):
        """Check that all glasses behind a recipe fit the shares that were there ahead of it."""
        sizes = tuple(pair(sum((number(much) for _, much in inside), Fraction(0))) for inside in fills)
        glasses = tuple((cask, share_in(inside, "red")) for cask, inside in enumerate(ends) if inside)
        found = mornings(sizes, recipe, glasses)
        self.assertNotEqual(found, ("none",))
        if found[0] == "one":
            self.assertEqual(found[1], tuple(share_in(inside, "red") if inside else (0, 1) for inside in fills))

    def test_a_story_is_the_same_all_ways(self):
        draw = drawing(502)
        for at in range(80):
            casks = 1 + at % 3
            fills, story, bounded, weather = some_cellar(draw, casks, kinds=["red", "white"]), [], [], []
            for deed in some_deeds(draw, casks, draw.randrange(7)):
                story.append(deed)
                bounded.append(deed)
                if draw.random() < 0.3:
                    kept = tuple(pair(Fraction(draw.randrange(4), 3)) for _ in range(casks))
                    story.append(("season", kept))
                    bounded.append(("season", (((0, 1), (1, 1)),) * casks))
                    weather.append(kept)
            story = tuple(story)
            ends = behind(fills, tuple(bounded), tuple(weather))
            self.assertEqual(played(fills, story).fills, ends)
            self.assertEqual(plain(fills, story), story)
            self.assertEqual(self.at_the_desk(fills, story), ends)
            self.assertIs(same_end(fills, story, (("times", 1, story),)), True)
            self.check_book(casks, tuple(deed for deed in story if deed[0] not in ("season", "swap")))
            self.check_gaps(fills, tuple(deed for deed in story if deed[0] != "season"))

    def check_book(self, casks, story):
        """Check that the book of a story from empty casks leaves what a living cellar does."""
        cellar = Cellar(((),) * casks)
        cellar.do_all(story)
        book = book_of(casks, story)
        self.assertEqual(held(casks, book), cellar.fills)
        self.assertEqual(played(((),) * casks, story_of(casks, book)).fills, cellar.fills)

    def check_gaps(self, fills, story):
        """Check that the share of a deed fits what a living cellar tells behind the story, if it were not known."""
        ends = played(fills, story)
        looks = tuple((cask, kind, share) for cask in range(len(fills)) for kind, share in ends.glass(cask))
        for at, deed in enumerate(story):
            if deed[0] != "add":
                found = shares_that_fit(fills, story[:at] + (deed[:-1] + (None,),) + story[at + 1 :], looks)
                self.assertNotEqual(found, ("none",))
                self.assertTrue(found[0] == "all" or (found[1] == deed[-1] if found[0] == "one"
                    else deed[-1] not in found[1]))


if __name__ == "__main__":
    unittest.main()
