"""What is put into casks once, and what is left of it in each of the years behind.

A step is a table for one year, a start what is put in, weights how much each part in a cask counts for. All is worked
in integers above numbers that are known, each year's being the one ahead times one factor; only what is told is
reduced.
"""

from math import lcm

from caskyears.errors import TooMany
from caskyears.fractions import ONE, ZERO, common, reduced_by
from caskyears.rounds import reach_of

MOST_YEARS = 300


def wheel_of(step):
    """Return the columns of a step, each as integers and what brings them above one number below, and this number."""
    columns = [common([row[at] for row in step]) for at in range(len(step))]
    below = 1
    for _, its_own in columns:
        below = lcm(below, its_own)
    return [(parts, below // its_own) for parts, its_own in columns], below


def turned(columns, numbers):
    """Return the integers in the casks a year later, above the number below of the wheel."""
    result = [0] * len(numbers)
    for number, (parts, factor) in zip(numbers, columns):
        if number != 0:
            raised = number * factor
            result = [much if part == 0 else much + part * raised for much, part in zip(result, parts)]
    return result


def turned_back(columns, numbers):
    """Return what one part in each cask is worth a year ahead, as integers, if the numbers tell its worth now."""
    return [factor * sum([part * number for part, number in zip(parts, numbers)]) for parts, factor in columns]


def kept_for(step, start, goals):
    """Return the tuple of those casks alone through which something comes to a goal.

    The other ones would only make the numbers below longer.
    """
    casks = range(len(step))
    reach = reach_of(step)
    sources = [cask for cask in casks if start[cask] != ZERO]
    kept = [cask for cask in casks if cask in sources or any([reach[source][cask] for source in sources])]
    return tuple([cask for cask in kept if cask in goals or any([reach[cask][goal] for goal in goals])])


def wound(step, start, kept):
    """Return the wheel of some casks alone, and what is in them at first as integers, with the number below."""
    columns, factor = wheel_of([[step[goal][source] for source in kept] for goal in kept])
    numbers, below = common([start[cask] for cask in kept])
    return columns, factor, numbers, below


def run_through(columns, numbers, years):
    """Return the list of what is in the casks, as integers, from the start to so many years behind."""
    found = [numbers]
    for _ in range(years):
        found.append(turned(columns, found[-1]))
    return found


def belows(below, factor, years):
    """Return the list of the numbers below, from the start to so many years behind."""
    found = [below]
    for _ in range(years):
        found.append(found[-1] * factor)
    return found


def weighed(step, start, weights, years):
    """Return the list of integers of what counts, from the start to so many years behind, and what stands below.

    This is the number below at the start, and the factor of each year.
    """
    kept = kept_for(step, start, [cask for cask in range(len(step)) if weights[cask] != ZERO])
    columns, factor, numbers, below = wound(step, start, kept)
    parts, its_own = common([weights[cask] for cask in kept])
    found = run_through(columns, numbers, years)
    return [sum([much * part for much, part in zip(entry, parts)]) for entry in found], below * its_own, factor


def readings(step, start, weights, years):
    """Return the list of what counts, from the start to so many years behind."""
    numbers, below, factor = weighed(step, start, weights, years)
    base = below * factor
    return [reduced_by(number, its_own, base) for number, its_own in zip(numbers, belows(below, factor, years))]


def last_reading(step, start, weights, years):
    """Return what counts so many years behind the start."""
    numbers, below, factor = weighed(step, start, weights, years)
    return reduced_by(numbers[-1], belows(below, factor, years)[-1], below * factor)


def sum_of_readings(step, start, weights, years):
    """Return the sum of what counts at the start and in each year to so many behind it."""
    numbers, below, factor = weighed(step, start, weights, years)
    return reduced_by(gathered(numbers, factor), belows(below, factor, years)[-1], below * factor)


def gathered(numbers, factor):
    """Return the sum of integers above numbers below, each being the one ahead times a factor, above the last one."""
    result = 0
    for number in numbers:
        result = result * factor + number
    return result


def runs_by_cask(step, start, years):
    """Return a dict, by casks, of what comes of the start: the integers year by year, the first below and the factor.

    Casks to which it comes through the same ones are worked together.
    """
    groups, found = {}, {}
    for cask in range(len(step)):
        groups.setdefault(kept_for(step, start, [cask]), []).append(cask)
    for kept, casks in groups.items():
        columns, factor, numbers, below = wound(step, start, kept)
        run = run_through(columns, numbers, years)
        for cask in casks:
            its_own = [entry[kept.index(cask)] for entry in run] if kept else [0] * (years + 1)
            found[cask] = (its_own, below, factor)
    return found


def each_reading(step, start, years):
    """Return the list, for each cask, of the list of what is in it from the start to so many years behind."""
    runs = runs_by_cask(step, start, years)
    found = []
    for cask in range(len(step)):
        numbers, below, factor = runs[cask]
        base, below_by_year = below * factor, belows(below, factor, years)
        found.append([reduced_by(number, its_own, base) for number, its_own in zip(numbers, below_by_year)])
    return found


def each_last(step, start, years):
    """Return the tuple, for each cask, of what is in it so many years behind the start."""
    runs = runs_by_cask(step, start, years)
    return each_over([(runs[cask][0][-1], runs[cask][1], runs[cask][2]) for cask in range(len(step))], years)


def each_sum(step, start, years):
    """Return the tuple, for each cask, of the sum of what is in it at the start and in each year to so many behind."""
    runs = runs_by_cask(step, start, years)
    entries = [runs[cask] for cask in range(len(step))]
    return each_over([(gathered(numbers, factor), below, factor) for numbers, below, factor in entries], years)


def each_over(entries, years):
    """Return the tuple of the fractions of integers, each above a first number below times so many factors."""
    found = []
    for number, below, factor in entries:
        found.append(reduced_by(number, belows(below, factor, years)[-1], below * factor))
    return tuple(found)


def first_at_most(step, start, bound, earliest):
    """Return the first year, from the earliest on, at which at most the bound is left in all casks together."""
    kept = kept_for(step, start, list(range(len(step))))
    columns, factor, numbers, below = wound(step, start, kept)
    for year in range(MOST_YEARS + 1):
        if year >= earliest and sum(numbers) * bound[1] <= bound[0] * below:
            return year
        numbers, below = turned(columns, numbers), below * factor
    raise TooMany(MOST_YEARS)


def by_years(amounts, last):
    """Return the ascending list of tuples (year of the wine, amount) of the amounts above 0 in the last year.

    The amounts are told age by age, the first one of the last year's wine.
    """
    dated = [(last - age, much) for age, much in enumerate(amounts) if much != ZERO]
    return dated[::-1]


def all_left(step, start, years):
    """Return what is left in all casks together so many years behind the start."""
    return last_reading(step, start, [ONE] * len(step), years)
