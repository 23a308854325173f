"""Books of what came in, was moved, went out and was lost, line by line."""

from caskyears.anew import built_anew
from caskyears.deeds import behind_deed, has_casks, is_deed, is_place, stages_of
from caskyears.errors import BadBook, BadStory
from caskyears.fills import is_kind, size_of
from caskyears.fractions import ONE, ZERO, divided, is_above_zero, lessened, multiplied, order, total
from caskyears.tables import check_casks


def bare_lines(count, book):
    """Return the ascending list of the indexes of the bare lines."""
    check_book(count, book)
    return [at for at, deed in enumerate(deeds_of(count, book)) if deed is None]


def held(count, book):
    """Return the cellar behind all lines."""
    check_book(count, book)
    return stages_of(empty_casks(count), told_deeds(count, book))[-1]


def sizes(count, book):
    """Return the list of the tuples of all sizes, one behind each line."""
    check_book(count, book)
    now, found = empty_casks(count), []
    for deed in deeds_of(count, book):
        now = now if deed is None else behind_deed(now, deed)
        found.append(tuple([size_of(fill) for fill in now]))
    return found


def totals(book):
    """Return the tuple of the sums of the amounts that came in, went out and were lost, bare lines counted, too."""
    check_lines(book, None)
    return tuple([total([line[-1] for line in book if line[0] == word]) for word in ("in", "out", "loss")])


def story_of(count, book):
    """Return the tuple of the deeds that do the same from empty casks, bare lines left out."""
    check_book(count, book)
    return tuple(told_deeds(count, book))


def book_of(count, story):
    """Return the book of a story that is done from empty casks."""
    check_casks(count)
    if not isinstance(story, tuple):
        raise BadStory(built_anew(story))
    for at, entry in enumerate(story):
        if not is_deed(entry) or not has_casks(entry, count) or entry[0] == "swap":
            raise BadStory(at)
    lines = []
    for entry, now in zip(story, stages_of(empty_casks(count), story)):
        lines.extend(lines_for(entry, now))
    return tuple(lines)


def is_open_line(value, casks):
    """Return whether any object is a line but for its amount, which may be any object."""
    if not isinstance(value, tuple) or not 3 <= len(value) <= 4 or not isinstance(value[0], str):
        return False
    if not is_place(value[1], casks):
        return False
    if value[0] == "in":
        return len(value) == 4 and is_kind(value[2])
    if value[0] == "move":
        return len(value) == 4 and is_place(value[2], casks) and value[1] != value[2]
    return value[0] in ("out", "loss") and len(value) == 3


def is_line(value, casks):
    """Return whether any object is a line for so many casks, or for any number if this is None."""
    return is_open_line(value, casks) and is_above_zero(value[-1])


def check_lines(book, casks):
    """Raise an error for what is no book for so many casks, or for any number if this is None."""
    if not isinstance(book, tuple):
        raise BadBook(built_anew(book))
    for at, line in enumerate(book):
        if not is_line(line, casks):
            raise BadBook(at)


def check_book(count, book):
    """Raise an error for a number of casks that there cannot be, and for what is no book for so many."""
    check_casks(count)
    check_lines(book, count)


def empty_casks(count):
    """Return the cellar of so many empty casks."""
    return ((),) * count


def deeds_of(count, book):
    """Return the list, for each line, of the deed that does the same, None for a bare one."""
    now, found = empty_casks(count), []
    for line in book:
        deed = deed_for(line, now)
        found.append(deed)
        now = now if deed is None else behind_deed(now, deed)
    return found


def told_deeds(count, book):
    """Return the list of the deeds that do the same as the lines that are not bare."""
    return [deed for deed in deeds_of(count, book) if deed is not None]


def deed_for(line, cellar):
    """Return the deed that does in a cellar what a line tells, None if it is bare."""
    word, cask, much = line[0], line[1], line[-1]
    if word == "in":
        return "add", cask, ((line[2], much),)
    inside = size_of(cellar[cask])
    if order(inside, much) < 0:
        return None
    share = divided(much, inside)
    if word == "move":
        return "move", cask, line[2], share
    return ("draw", cask, share) if word == "out" else ("keep", cask, lessened(ONE, share))


def lines_for(entry, cellar):
    """Return the list of the lines that tell what an entry of a story, no swap, does in a cellar."""
    word, cask, share = entry[0], entry[1], entry[-1]
    if word == "add":
        return [("in", cask, kind, much) for kind, much in share]
    much = multiplied(lessened(ONE, share) if word == "keep" else share, size_of(cellar[cask]))
    if much == ZERO:
        return []
    if word == "move":
        return [("move", cask, entry[2], much)]
    return [("out" if word == "draw" else "loss", cask, much)]
