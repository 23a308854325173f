"""Texts of a cellar and of what was done in it, line by line."""

from caskyears.anew import built_anew
from caskyears.deeds import has_casks, is_deed
from caskyears.errors import BadStory, BadText
from caskyears.fills import check_cellar
from caskyears.livecellar import are_shares
from caskyears.reading import cellar_in, deed_in, shares_in
from caskyears.texts import deed_text, numbers_text, show_cellar

SEASON = "season "


def show_book(fills, story):
    """Return the text of a cellar and a story without years."""
    check_cellar(fills)
    if not isinstance(story, tuple):
        raise BadStory(built_anew(story))
    for at, entry in enumerate(story):
        if not is_entry_for(entry, len(fills)):
            raise BadStory(at)
    lines = [show_cellar(fills)] + [entry_text(entry) for entry in story]
    return "".join([line + "\n" for line in lines])


def read_book(text):
    """Return the tuple of the cellar and the story that a text says."""
    if not isinstance(text, str):
        raise BadText(0)
    lines = text.split("\n")
    fills, story = cellar_in(lines[0]), []
    if fills is None:
        raise BadText(0)
    for at, line in enumerate(lines[1:-1]):
        entry = entry_in(line)
        if not is_entry_for(entry, len(fills)):
            raise BadText(at + 1)
        story.append(entry)
    if lines[-1]:
        raise BadText(len(lines) - 1)
    return fills, tuple(story)


def is_entry_for(value, casks):
    """Return whether any object is a deed or a season for so many casks."""
    if is_deed(value):
        return has_casks(value, casks)
    if not isinstance(value, tuple) or len(value) != 2 or not isinstance(value[0], str) or value[0] != "season":
        return False
    return are_shares(value[1], casks)


def entry_text(entry):
    """Return the text of a deed or a season."""
    return SEASON + numbers_text(entry[1]) if entry[0] == "season" else deed_text(entry)


def entry_in(line):
    """Return the deed or the season, of however many casks, that has a text, None if none has it."""
    if not line.startswith(SEASON):
        return deed_in(line)
    kept = shares_in(line[len(SEASON) :])
    return None if kept is None else ("season", kept)
