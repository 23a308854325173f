"""The errors of the package: each stores what was passed to it in the attribute value."""


class CaskError(ValueError):
    """Above all other errors of the package."""

    def __init__(self, value):
        ValueError.__init__(self, value)
        self.value = value


class InvalidFraction(CaskError):
    """For what is no fraction, or none that may stand there."""


class InvalidFill(CaskError):
    """For what is no fill, no kind, or no list of amounts."""


class InvalidCellar(CaskError):
    """For what is no cellar."""


class InvalidTable(CaskError):
    """For what is no table, or no list of rows of numbers."""


class InvalidDeed(CaskError):
    """For what is no deed, or none for these casks."""


class InvalidRecipe(CaskError):
    """For what is no recipe, or none for these casks."""


class InvalidRow(CaskError):
    """For what is no row."""


class InvalidYearly(CaskError):
    """For what is no yearly cellar."""


class InvalidNumber(CaskError):
    """For an integer out of its bounds."""


class Unlike(CaskError):
    """For two things that should be alike in number or measure."""


class NoSolution(CaskError):
    """For a task that has no solution."""


class Unreadable(CaskError):
    """For a text that says nothing."""


class BadCask(CaskError):
    """For what is no cask."""


class BadSystem(CaskError):
    """For what is no system."""


class BadAim(CaskError):
    """For what is no aim."""


class BadSizes(CaskError):
    """For what are no sizes."""


class BadStand(CaskError):
    """For what is no stand and no point."""


class BadRooms(CaskError):
    """For what are no rooms."""


class BadDregs(CaskError):
    """For what are no dregs."""


class BadRanges(CaskError):
    """For what are no ranges."""


class BadPours(CaskError):
    """For what are no pours."""


class BadStory(CaskError):
    """For what is no story."""


class BadWeather(CaskError):
    """For what is no weather."""


class BadRule(CaskError):
    """For what is no rule."""


class BadKnowledge(CaskError):
    """For what is no knowledge."""


class BadProducts(CaskError):
    """For what are no products."""


class BadLot(CaskError):
    """For what is no lot."""


class BadTold(CaskError):
    """For what was told and cannot be."""


class BadGlasses(CaskError):
    """For what are no glasses."""


class BadSides(CaskError):
    """For what are no sides."""


class BadBook(CaskError):
    """For what is no book."""


class BadLine(CaskError):
    """For what is no line."""


class BadText(CaskError):
    """For what is no text of a cellar."""


class BadCommand(CaskError):
    """For what is no command."""


class TooMany(CaskError):
    """For more than is counted."""


class Nothing(CaskError):
    """For nothing that could be taken back."""


class NoBlock(CaskError):
    """For no block that is open."""


class NotReady(CaskError):
    """For no cellar yet."""
