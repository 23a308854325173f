"""Traces of lots: in which casks they may be, which draws carry them, and which looks tell a bad one."""

from caskyears.anew import built_anew
from caskyears.deeds import has_casks, is_deed
from caskyears.errors import BadLot, BadStory, BadTold
from caskyears.fills import check_cellar
from caskyears.fractions import ONE, ZERO, is_integer


def lots(cellar, story):
    """Return the ascending list of the lots."""
    check_story(cellar, story)
    return lots_of(cellar, story)


def touched(cellar, story, lot):
    """Return the ascending list of the casks that a lot is in behind a story."""
    check_lot(cellar, story, lot)
    return casks_touched(len(cellar), story, lot)


def carried(cellar, story, index):
    """Return the ascending list of the lots that the draw at an index carries."""
    check_story(cellar, story)
    check_draw(story, index)
    return carried_by(cellar, story, index)


def road(cellar, story, lot, index):
    """Return a road of a lot to the draw at an index with the fewest indexes, None if the lot is not carried."""
    check_lot(cellar, story, lot)
    check_draw(story, index)
    start = start_of(story, lot)
    roads = {start[1]: []}
    for at in range(start[0], index):
        roads = roads_on(roads, story[at], at)
    draw = story[index]
    # A draw ahead of the lot finds no road, as it has none of the lot.
    if index < start[0] or draw[1] not in roads or draw[2] == ZERO:
        return None
    return roads[draw[1]] + [index]


def road_holds(cellar, story, lot, index, value):
    """Return whether any object is a road of a lot to the draw at an index."""
    check_lot(cellar, story, lot)
    check_draw(story, index)
    if not isinstance(value, list) or not value or not all([is_integer(entry) for entry in value]):
        return False
    first, cask = start_of(story, lot)
    if value[0] < first or value[-1] != index or not is_ascending(value):
        return False
    turns = value[:-1]
    for at in range(first, index):
        ways = roads_on({cask: []}, story[at], at)
        ends = [goal for goal, way in ways.items() if len(way) == (1 if at in turns else 0)]
        if not ends:
            return False
        cask = ends[0]
    return story[index][1] == cask and story[index][2] != ZERO


def suspects(cellar, story, told):
    """Return the ascending list of the lots that fit all looks, if one lot alone is bad."""
    check_told(cellar, story, told)
    return suspects_of(cellar, story, told)


def looks(cellar, story, told):
    """Return the least number of further draws that tell the bad lot in all cases, None if none do."""
    check_told(cellar, story, told)
    found = best_looks(cellar, story, suspects_of(cellar, story, told))
    return None if found is None else found[0]


def look_tree(cellar, story, told):
    """Return a tree of looks of the least depth, None if there is none, or no suspect."""
    check_told(cellar, story, told)
    found = best_looks(cellar, story, suspects_of(cellar, story, told))
    return None if found is None else found[1]


def check_story(cellar, story):
    """Raise an error for what is no cellar, and for what is no story of deeds in it."""
    check_cellar(cellar)
    check_deeds_of(story, len(cellar))


def check_deeds_of(story, casks):
    """Raise an error for what is no tuple of deeds for so many casks."""
    if not isinstance(story, tuple):
        raise BadStory(built_anew(story))
    for at, entry in enumerate(story):
        if not is_deed(entry) or not has_casks(entry, casks):
            raise BadStory(at)


def check_lot(cellar, story, lot):
    """Raise an error for what is no cellar, no story and no lot of it."""
    check_story(cellar, story)
    if not is_integer(lot) or lot not in lots_of(cellar, story):
        raise BadLot(built_anew(lot))


def is_draw(story, index):
    """Return whether there is a draw at an index."""
    return 0 <= index < len(story) and story[index][0] == "draw"


def check_draw(story, index):
    """Raise an error for an index at which there is no draw."""
    if not is_draw(story, index):
        raise BadStory(index)


def check_told(cellar, story, told):
    """Raise an error for what is no cellar, no story and no looks at its draws."""
    check_story(cellar, story)
    if not isinstance(told, tuple) or not all([is_look(entry, story) for entry in told]):
        raise BadTold(built_anew(told))


def is_look(value, story):
    """Return whether any object is a tuple of the index of a draw and whether it is bad."""
    if not isinstance(value, tuple) or len(value) != 2 or not isinstance(value[1], bool):
        return False
    return is_integer(value[0]) and is_draw(story, value[0])


def is_ascending(numbers):
    """Return whether each number is above the one ahead."""
    return all([numbers[at] < numbers[at + 1] for at in range(len(numbers) - 1)])


def lots_of(cellar, story):
    """Return the ascending list of the lots of a cellar and of the adds of a story."""
    first = [-1 - cask for cask, fill in enumerate(cellar) if fill]
    return first[::-1] + [at for at, entry in enumerate(story) if entry[0] == "add" and entry[2]]


def start_of(story, lot):
    """Return the index of the first entry behind the beginning of a lot, and the cask where it begins."""
    return (0, -1 - lot) if lot < 0 else (lot + 1, story[lot][1])


def ways_of(entry, cask):
    """Return the list of the casks into which an entry brings some of what is in a cask, and where some of it stays."""
    word, share = entry[0], entry[-1]
    if word == "season":
        return [] if share[cask] == ZERO else [cask]
    if word == "add" or cask not in entry[1:-1] or (word == "move" and cask == entry[2]):
        return [cask]
    if word == "keep":
        return [] if share == ZERO else [cask]
    stays = [] if share == ONE else [cask]
    if word == "draw" or share == ZERO:
        return stays
    return stays + [entry[2] if cask == entry[1] else entry[1]]


def casks_touched(casks, story, lot):
    """Return the ascending list of the casks that a lot is in behind a story, seasons among its entries, too."""
    first, cask = start_of(story, lot)
    inside = {cask: True}
    for entry in story[first:]:
        inside = {goal: True for source in inside for goal in ways_of(entry, source)}
    return [place for place in range(casks) if place in inside]


def carried_by(cellar, story, index):
    """Return the ascending list of the lots that the draw at an index carries."""
    if story[index][2] == ZERO:
        return []
    ahead = story[:index]
    cask, casks = story[index][1], len(cellar)
    return [lot for lot in lots_of(cellar, ahead) if cask in casks_touched(casks, ahead, lot)]


def roads_on(roads, entry, at):
    """Return a dict, by the casks that they lead to, of the shortest roads behind an entry at an index."""
    found = {}
    for cask, way in roads.items():
        for goal in ways_of(entry, cask):
            longer = way if goal == cask else way + [at]
            if goal not in found or len(longer) < len(found[goal]):
                found[goal] = longer
    return found


def suspects_of(cellar, story, told):
    """Return the ascending list of the lots that fit all looks."""
    seen = [(carried_by(cellar, story, index), bad) for index, bad in told]
    return [lot for lot in lots_of(cellar, story) if all([(lot in bads) == bad for bads, bad in seen])]


def best_looks(cellar, story, fit):
    """Return the depth and the tree of the fewest looks that tell apart the lots that fit, None if none do.

    Without such lots there is no tree.
    """
    draws = [(at, carried_by(cellar, story, at)) for at in range(len(story)) if is_draw(story, at)]
    marks = [tuple([lot in bads for _, bads in draws]) for lot in fit]
    if len(set(marks)) < len(marks):
        return None
    return (0, None) if not fit else parted(tuple(fit), draws, {})


def parted(fit, draws, known):
    """Return the depth and the tree of the fewest looks that tell apart lots no two of which have the same draws."""
    if len(fit) == 1:
        return 0, ("is", fit[0])
    if fit not in known:
        best = None
        for index, bads in draws:
            bad, good = tuple([lot for lot in fit if lot in bads]), tuple([lot for lot in fit if lot not in bads])
            if bad and good:
                if_bad, if_good = parted(bad, draws, known), parted(good, draws, known)
                depth = 1 + max(if_bad[0], if_good[0])
                if best is None or depth < best[0]:
                    best = (depth, ("look", index, if_bad[1], if_good[1]))
        known[fit] = best
    return known[fit]
