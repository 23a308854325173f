"""Stories with a gap where a share should stand, and what looks at the casks behind them tell of it."""

from caskyears.anew import built_anew
from caskyears.deeds import has_casks, is_cask_of, is_deed, stages_of
from caskyears.errors import BadStory, BadTold
from caskyears.fills import amount_of, check_cellar, is_kind, kinds_of, size_of
from caskyears.fractions import ONE, ZERO, check_share, divided, is_share, lessened, multiplied


def with_share(story, share):
    """Return the story with a share in the gap."""
    if not is_gap_story(story, None):
        raise BadStory(built_anew(story))
    check_share(share)
    return filled(story, share)


def shares_that_fit(cellar, story, looks):
    """Return which shares in the gap fit all looks: all, none, one alone, or all but some."""
    check_looks(cellar, story, looks)
    return fit_of(lines_of(cellar, story, looks))


def pair_of_looks(cellar, story, looks):
    """Return the ascending tuple of the indexes of one look or two that no share fits, None if some share fits all."""
    check_looks(cellar, story, looks)
    lines = lines_of(cellar, story, looks)
    if fit_of(lines) != ("none",):
        return None
    numbers = range(len(lines))
    found = [(at,) for at in numbers if fit_of([lines[at]]) == ("none",)]
    pairs = [(at, other) for at in numbers for other in range(at + 1, len(lines))]
    return (found + [pair for pair in pairs if fit_of([lines[pair[0]], lines[pair[1]]]) == ("none",)])[0]


def telling_glass(cellar, story):
    """Return the first cask and kind whose share in a glass tells the share in the gap, None if there are none."""
    check_gap(cellar, story)
    low, high = ends_of(cellar, story)
    kinds = kinds_of(list(cellar) + [entry[2] for entry in story if entry[0] == "add"])
    for cask in range(len(cellar)):
        for kind in kinds:
            # The share is a quotient of two lines: it is the same for all, or unlike for any two.
            left = multiplied(amount_of(low[cask], kind), size_of(high[cask]))
            if left != multiplied(amount_of(high[cask], kind), size_of(low[cask])):
                return cask, kind
    return None


def is_gap_story(value, casks):
    """Return whether any object is a story with a gap, for so many casks or for any number if this is None."""
    if not isinstance(value, tuple) or len([entry for entry in value if is_gap(entry)]) != 1:
        return False
    whole = filled(value, ZERO)
    return all([is_deed(entry) and (casks is None or has_casks(entry, casks)) for entry in whole])


def is_gap(value):
    """Return whether any object is a tuple that begins as a move, swap, draw or keep and ends with None."""
    if not isinstance(value, tuple) or not value or not isinstance(value[0], str) or value[-1] is not None:
        return False
    return value[0] in ("move", "swap", "draw", "keep")


def filled(story, share):
    """Return the story with a share in each gap."""
    return tuple([entry[:-1] + (share,) if is_gap(entry) else entry for entry in story])


def check_gap(cellar, story):
    """Raise an error for what is no cellar, and for what is no story with a gap for its casks."""
    check_cellar(cellar)
    if not is_gap_story(story, len(cellar)):
        raise BadStory(built_anew(story))


def check_looks(cellar, story, looks):
    """Raise an error for what is no cellar, no story with a gap and no looks."""
    check_gap(cellar, story)
    if not isinstance(looks, tuple) or not all([is_look(entry, len(cellar)) for entry in looks]):
        raise BadTold(built_anew(looks))


def is_look(value, casks):
    """Return whether any object is a tuple of a cask, a kind and a share."""
    if not isinstance(value, tuple) or len(value) != 3:
        return False
    return is_cask_of(value[0], casks) and is_kind(value[1]) and is_share(value[2])


def ends_of(cellar, story):
    """Return the list of the cellars behind a story with 0 and with 1 in the gap: amounts are lines between them."""
    return [stages_of(cellar, filled(story, share))[-1] for share in (ZERO, ONE)]


def lines_of(cellar, story, looks):
    """Return the list, for each look, of tuples of what is 0 if it is right and of the size, at 0 and at 1."""
    ends, found = ends_of(cellar, story), []
    for cask, kind, share in looks:
        fills = [end[cask] for end in ends]
        sizes = [size_of(fill) for fill in fills]
        misses = [lessened(amount_of(fill, kind), multiplied(share, size)) for fill, size in zip(fills, sizes)]
        found.append((misses[0], misses[1], sizes[0], sizes[1]))
    return found


def fit_of(lines):
    """Return which shares fit the looks that have these lines.

    A size is a line that is nowhere below 0, so it is 0 at an end alone, or everywhere.
    """
    if any([is_never(line) for line in lines]):
        return ("none",)
    empty = [share for share, at in ((ZERO, 2), (ONE, 3)) if any([line[at] == ZERO for line in lines])]
    roots = {divided(line[0], lessened(line[0], line[1])): True for line in lines if line[0] != line[1]}
    if roots:
        found = list(roots)[0]
        return ("one", found) if len(roots) == 1 and is_share(found) and found not in empty else ("none",)
    return ("but", tuple(empty)) if empty else ("all",)


def is_never(line):
    """Return whether the look of a line is never right, or its cask empty with all shares."""
    return (line[2] == ZERO and line[3] == ZERO) or (line[0] == line[1] and line[0] != ZERO)
