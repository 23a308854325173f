"""A desk at which a living cellar is worked on by lines of text."""

from caskyears.anew import built_anew
from caskyears.cellarbooks import entry_in, read_book
from caskyears.errors import BadCommand, BadLot, NotReady
from caskyears.fills import size_of
from caskyears.livecellar import Cellar
from caskyears.reading import integer_in
from caskyears.texts import fill_text, fraction_text
from caskyears.traces import casks_touched, lots_of

LOAD = "load\n"
ALONE = ("undo", "left", "born", "begin", "keep", "drop", "entries")
WITH_NUMBER = ("cask", "size", "glass", "touched")


class Desk:
    """A desk at which lines are executed."""

    def __init__(self):
        self._first = None
        self._cellar = None

    def execute(self, line):
        """Do what a line says; return the text of what it tells."""
        command = command_in(line)
        if command is None:
            raise BadCommand(built_anew(line))
        word, told = command
        if word == "load":
            return self.load(told)
        if self._cellar is None:
            raise NotReady(None)
        if word == "entry":
            return entry_done(self._cellar, told)
        if word == "touched":
            return self.touched(told)
        return numbered(self._cellar, word, told) if word in WITH_NUMBER else alone(self._cellar, word)

    def load(self, text):
        """Put the cellar of a text, with its story done, in the place of the one ahead."""
        fills, story = read_book(text)
        cellar = Cellar(fills)
        for entry in story:
            cellar.work(entry)
        self._first = fills
        self._cellar = cellar
        return "ok"

    def touched(self, lot):
        """Return the text of the casks that a lot is in."""
        story = self._cellar.story
        if lot not in lots_of(self._first, story):
            raise BadLot(lot)
        return " ".join([str(cask) for cask in casks_touched(len(self._first), story, lot)]) or "-"


def command_in(line):
    """Return the tuple of the word of a command and what it tells, None for any object that is none."""
    if not isinstance(line, str):
        return None
    if line.startswith(LOAD):
        return "load", line[len(LOAD) :]
    if line in ALONE:
        return line, None
    word, _, rest = line.partition(" ")
    if word in WITH_NUMBER:
        number = integer_in(rest)
        return None if number is None else (word, number)
    entry = entry_in(line)
    return None if entry is None else ("entry", entry)


def entry_done(cellar, entry):
    """Do a deed or a season; return the text of what left by a draw or a keep, ok otherwise."""
    if entry[0] == "season":
        cellar.season(entry[1])
        return "ok"
    gone = cellar.do(entry)
    return fill_text(gone) if entry[0] in ("draw", "keep") else "ok"


def numbered(cellar, word, cask):
    """Return what a command with the number of a cask tells."""
    if word == "glass":
        return fill_text(cellar.glass(cask))
    fill = cellar.inside(cask)
    return fill_text(fill) if word == "cask" else fraction_text(size_of(fill))


def alone(cellar, word):
    """Do what a command of one word says; return what it tells."""
    if word == "undo":
        return cellar.undo()
    if word == "entries":
        return str(len(cellar))
    if word in ("left", "born"):
        return fill_text(cellar.left if word == "left" else cellar.born)
    if word == "begin":
        cellar.begin()
    elif word == "keep":
        cellar.keep()
    else:
        cellar.drop()
    return "ok"
