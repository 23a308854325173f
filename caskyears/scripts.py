"""Scripts: deeds, years and seasons that are done several times, or if a rule fits."""

from caskyears.anew import built_anew
from caskyears.deeds import check_cask, has_casks, is_deed, is_place
from caskyears.errors import BadStory, InvalidNumber, TooMany
from caskyears.fills import MOST_CASKS, amount_of, check_cellar, is_kind
from caskyears.fractions import ONE, is_integer
from caskyears.grids import power_of
from caskyears.livecellar import Cellar, are_shares
from caskyears.recipes import MARKS
from caskyears.rules import check_rule, is_rule
from caskyears.stocks import amounts_above, are_alike, behind_entry, fills_in, fits_at, live_stock, mixed
from caskyears.tables import check_casks
from caskyears.yearly import is_yearly

MOST_DONE = 2000
MOST_TIMES = 200
MOST_TURNS = 300


def played(fills, script):
    """Return the living cellar behind a script."""
    check_both(fills, script)
    cellar = Cellar(fills)
    for entry in story_of(fills, script):
        cellar.work(entry)
    return cellar


def plain(fills, script):
    """Return the story that a script does, as a script without times and if."""
    check_both(fills, script)
    return tuple(story_of(fills, script))


def same_end(fills, script, other):
    """Return whether two scripts lead to the same fills."""
    check_both(fills, script)
    check_script(other, len(fills))
    stock = live_stock(fills)
    return are_alike(play(stock, script, []), play(stock, other, []), len(fills))


def steady(script):
    """Return whether a script has no if, add, year and season at any depth."""
    check_script(script, None)
    return not any([is_loose(entry) for entry in script])


def table_of(number, script):
    """Return the table of a steady script for so many casks."""
    check_casks(number)
    if not isinstance(script, tuple):
        raise BadStory(built_anew(script))
    for at, entry in enumerate(script):
        if not is_entry(entry, number) or is_loose(entry):
            raise BadStory(at)
    fills = fills_in(marked_behind(number, script), number)
    return tuple([tuple([amount_of(fill, mark) for mark in MARKS[:number]]) for fill in fills])


def turns(fills, script, most):
    """Return the list of the fills behind the script done no time, once and so on, up to most times."""
    check_both(fills, script)
    check_most(most)
    return [fills_in(stock, len(fills)) for stock in stocks_by_turns(fills, script, most)]


def settles(fills, script, cask, rule, most):
    """Return the least number of times from which on, up to most times, a rule fits a cask, None if there is none."""
    check_both(fills, script)
    check_cask(cask, len(fills))
    check_rule(rule)
    check_most(most)
    found = None
    for number, stock in enumerate(stocks_by_turns(fills, script, most)):
        if not fits_at(stock, cask, rule):
            found = None
        elif found is None:
            found = number
    return found


def check_script(script, casks):
    """Raise an error for what is no script for so many casks, or for any number if this is None."""
    if not isinstance(script, tuple):
        raise BadStory(built_anew(script))
    for at, entry in enumerate(script):
        if not is_entry(entry, casks):
            raise BadStory(at)


def check_both(fills, script):
    """Raise an error for what is no cellar, and for what is no script for its casks."""
    check_cellar(fills)
    check_script(script, len(fills))


def check_most(most):
    """Raise an error for a number of times out of its bounds."""
    if not 0 <= most <= MOST_TURNS:
        raise InvalidNumber(most)


def is_entry(value, casks):
    """Return whether any object is an entry of a script for so many casks, or for any number if this is None."""
    if is_deed(value):
        return casks is None or has_casks(value, casks)
    if not isinstance(value, tuple) or len(value) < 2 or not isinstance(value[0], str):
        return False
    if value[0] == "year":
        return len(value) == 3 and is_yearly_for(value[1], casks) and is_kind(value[2])
    if value[0] == "season":
        return len(value) == 2 and are_kept(value[1], casks)
    if value[0] == "times":
        return len(value) == 3 and is_times(value[1]) and is_script(value[2], casks)
    if value[0] != "if" or len(value) != 5 or not is_place(value[1], casks) or not is_rule(value[2]):
        return False
    return is_script(value[3], casks) and is_script(value[4], casks)


def is_script(value, casks):
    """Return whether any object is a script for so many casks, or for any number if this is None."""
    return isinstance(value, tuple) and all([is_entry(entry, casks) for entry in value])


def is_times(value):
    """Return whether any object is a number of times."""
    return is_integer(value) and 0 <= value <= MOST_TIMES


def is_yearly_for(value, casks):
    """Return whether any object is a yearly cellar of so many casks, or of any number if this is None."""
    return is_yearly(value) and (casks is None or len(value[0]) == casks)


def are_kept(value, casks):
    """Return whether any object is shares that are kept of so many casks, or of any number if this is None."""
    if casks is not None:
        return are_shares(value, casks)
    return isinstance(value, tuple) and 1 <= len(value) <= MOST_CASKS and are_shares(value, len(value))


def is_loose(entry):
    """Return whether an entry is an if, an add, a year or a season, or has one at any depth."""
    if entry[0] == "times":
        return any([is_loose(inner) for inner in entry[2]])
    return entry[0] in ("if", "add", "year", "season")


def story_of(fills, script):
    """Return the list of the deeds, years and seasons that a script does."""
    done = []
    play(live_stock(fills), script, done)
    return done


def play(stock, script, done):
    """Return the stock behind a script, and put all that it does at the end of a list."""
    for entry in script:
        if entry[0] == "times":
            stock = play_times(stock, entry, done)
        elif entry[0] == "if":
            stock = play(stock, entry[3] if fits_at(stock, entry[1], entry[2]) else entry[4], done)
        else:
            if len(done) == MOST_DONE:
                raise TooMany(MOST_DONE)
            done.append(entry)
            stock = behind_entry(stock, entry)
    return stock


def play_times(stock, entry, done):
    """Return the stock behind a script that is done several times, and put all that it does at the end of a list."""
    for _ in range(entry[1]):
        ahead = len(done)
        stock = play(stock, entry[2], done)
        if len(done) == ahead:
            # What does nothing once does nothing ever, and there may be very many times.
            return stock
    return stock


def stocks_by_turns(fills, script, most):
    """Return the list of the stocks behind the script done no time, once and so on, up to most times."""
    found = [live_stock(fills)]
    for _ in range(most):
        found.append(play(found[-1], script, []))
    return found


def marked_behind(number, script):
    """Return the stock behind a steady script of one part of a kind of its own in each cask.

    What is done several times is done at once by its table so many times, worked out by squares.
    """
    stock, places = live_stock(tuple([((mark, ONE),) for mark in MARKS[:number]])), tuple(range(number))
    for entry in script:
        if entry[0] == "times":
            once = marked_behind(number, entry[2])
            parts = [amounts_above(once[0][place], once[1]) for place in places]
            grid = [[part.get(mark, 0) for mark in MARKS[:number]] for part in parts], once[1]
            stock = mixed(stock, places, power_of(grid, entry[1]), once[2])
        else:
            stock = behind_entry(stock, entry)
    return stock
