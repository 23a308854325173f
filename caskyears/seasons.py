"""Stories with seasons, of which nobody knows ahead how much stays: what they leave for all weathers."""

from caskyears.anew import built_anew
from caskyears.deeds import behind_deed, check_cask, has_casks, is_deed, stages_of
from caskyears.errors import BadStory, BadWeather
from caskyears.fills import amount_of, check_cellar, check_kind, scaled, size_of
from caskyears.fractions import common, is_share, order, reduced, total
from caskyears.grids import grid_of
from caskyears.recipes import table_by_marks
from caskyears.rules import check_rule


def behind(cellar, story, weather):
    """Return the cellar behind a story."""
    check_cellar(cellar)
    check_story(story, len(cellar))
    if not is_weather(weather, bounds_of(story)):
        raise BadWeather(built_anew(weather))
    return cellar_behind(cellar, story, weather)


def amount_between(cellar, story, cask, kind):
    """Return the tuple of the least and the greatest amount of a kind in a cask behind a story, for all weathers."""
    check_place(cellar, story, cask)
    check_kind(kind)
    return tuple([amount_of(fill, kind) for fill in fills_at_ends(cellar, story, cask)])


def size_within(cellar, story, cask):
    """Return the tuple of the least and the greatest size of a cask behind a story, for all weathers."""
    check_place(cellar, story, cask)
    return tuple([size_of(fill) for fill in fills_at_ends(cellar, story, cask)])


def share_between(cellar, story, cask, kind):
    """Return the tuple of the least and the greatest share of a kind, None if the cask is empty for all weathers."""
    check_place(cellar, story, cask)
    check_kind(kind)
    found = ends_of_share(cellar, story, cask, (kind,))
    return None if found is None else (found[0][0], found[1][0])


def weather_for(cellar, story, cask, kind, greatest):
    """Return a weather with the greatest or the least share, None if the cask is empty for all weathers."""
    check_place(cellar, story, cask)
    check_kind(kind)
    found = ends_of_share(cellar, story, cask, (kind,))
    return None if found is None else found[1 if greatest else 0][1]


def keeps(cellar, story, cask, rule):
    """Return whether a rule fits a cask behind a story for all weathers."""
    check_place(cellar, story, cask)
    check_rule(rule)
    kinds, sense, share = rule
    found = ends_of_share(cellar, story, cask, kinds)
    if found is None:
        return True
    return order(found[0][0], share) >= 0 if sense == "least" else order(found[1][0], share) <= 0


def is_season(value, casks):
    """Return whether any object is a season for so many casks."""
    if not isinstance(value, tuple) or len(value) != 2 or not isinstance(value[0], str) or value[0] != "season":
        return False
    return isinstance(value[1], tuple) and len(value[1]) == casks and all([is_span(entry) for entry in value[1]])


def is_span(value):
    """Return whether any object is a tuple of two shares, the first one at most the second."""
    if not isinstance(value, tuple) or len(value) != 2 or not all([is_share(entry) for entry in value]):
        return False
    return order(value[0], value[1]) <= 0


def check_story(story, casks):
    """Raise an error for what is no story of so many casks."""
    if not isinstance(story, tuple):
        raise BadStory(built_anew(story))
    for at, entry in enumerate(story):
        if not is_season(entry, casks) and not (is_deed(entry) and has_casks(entry, casks)):
            raise BadStory(at)


def check_place(cellar, story, cask):
    """Raise an error for what are no cellar, no story and no cask."""
    check_cellar(cellar)
    check_story(story, len(cellar))
    check_cask(cask, len(cellar))


def bounds_of(story):
    """Return the list of the bounds of the seasons of a story."""
    return [entry[1] for entry in story if entry[0] == "season"]


def is_weather(value, bounds):
    """Return whether any object is a weather for seasons with these bounds."""
    if not isinstance(value, tuple) or len(value) != len(bounds):
        return False
    return all([are_kept(shares, spans) for shares, spans in zip(value, bounds)])


def are_kept(value, spans):
    """Return whether any object is a tuple of a share for each cask, between its bounds."""
    if not isinstance(value, tuple) or len(value) != len(spans) or not all([is_share(entry) for entry in value]):
        return False
    return all([order(low, entry) <= 0 and order(entry, high) <= 0 for entry, (low, high) in zip(value, spans)])


def cellar_behind(cellar, story, weather):
    """Return the cellar behind a story with a weather, all known to be so."""
    now, seasons = cellar, 0
    for entry in story:
        if entry[0] == "season":
            now = tuple([scaled(fill, share) for fill, share in zip(now, weather[seasons])])
            seasons += 1
        else:
            now = behind_deed(now, entry)
    return now


def fills_at_ends(cellar, story, cask):
    """Return the list of the fills of a cask behind a story with all low and with all high shares."""
    bounds = bounds_of(story)
    weathers = [[[span[end] for span in spans] for spans in bounds] for end in (0, 1)]
    return [cellar_behind(cellar, story, weather)[cask] for weather in weathers]


def ends_of_share(cellar, story, cask, kinds):
    """Return the least and the greatest share of kinds, each with its weather, None if there are none.

    A share goes one way with each share that stays, so lows and highs alone are gone through.
    """
    least, most = None, None
    for weather, counted, whole in corners_behind(cellar, story, kinds):
        share = (counted[cask], whole[cask])
        if share[1] != 0:
            if least is None or order(share, least[0]) < 0:
                least = (share, weather)
            if most is None or order(share, most[0]) > 0:
                most = (share, weather)
    if least is None:
        return None
    return [(reduced(share[0], share[1]), weather) for share, weather in (least, most)]


def corners_behind(cellar, story, kinds):
    """Return a list of tuples: each weather of lows and highs, the amounts of kinds in the casks behind it, and of all.

    The amounts are integers above one number. What stands between two seasons is one table and what is added, worked
    out but once.
    """
    stretches = stretches_of(story)
    counted, whole, below = counted_in(stages_of(cellar, stretches[0])[-1], kinds)
    found = [((), counted, whole)]
    for spans, deeds in zip(bounds_of(story), stretches[1:]):
        corners, scale = corners_of(spans)
        table = grid_of(table_by_marks([deed for deed in deeds if deed[0] != "add"], len(cellar)))
        put = counted_in(stages_of(((),) * len(cellar), deeds)[-1], kinds)
        found = [season_on(state, corner, table[0], put, below * scale * table[1])
            for state in found for corner in corners]
        below = below * scale * table[1] * put[2]
    return found


def stretches_of(story):
    """Return the list of the lists of deeds ahead of, between and behind the seasons of a story."""
    found = [[]]
    for entry in story:
        if entry[0] == "season":
            found.append([])
        else:
            found[-1].append(entry)
    return found


def counted_in(cellar, kinds):
    """Return the amounts of kinds in each cask, and all amounts, as lists of integers, and the one number below."""
    counted = [total([amount_of(fill, kind) for kind in kinds]) for fill in cellar]
    numbers, below = common(counted + [size_of(fill) for fill in cellar])
    return numbers[: len(cellar)], numbers[len(cellar) :], below


def corners_of(spans):
    """Return a list of tuples, shares that are each low or high and their integers, and the one number below these."""
    numbers, below = common([end for span in spans for end in span])
    found = [((), [])]
    for cask, (low, high) in enumerate(spans):
        ends = [(low, numbers[2 * cask]), (high, numbers[2 * cask + 1])]
        ends = ends[:1] if low == high else ends
        found = [(shares + (end,), whole + [number]) for shares, whole in found for end, number in ends]
    return found, below


def season_on(state, corner, rows, put, below):
    """Return the weather and the amounts behind one more season, the rows of a table and what is put in behind it.

    The number is the one below the amounts behind the rows.
    """
    weather, counted, whole = state
    shares, parts = corner
    behind_it = []
    for numbers, adds in ((counted, put[0]), (whole, put[1])):
        kept = [number * part for number, part in zip(numbers, parts)]
        worked = [sum([entry * number for entry, number in zip(row, kept)]) for row in rows]
        behind_it.append([much * put[2] + add * below for much, add in zip(worked, adds)])
    return weather + (shares,), behind_it[0], behind_it[1]
