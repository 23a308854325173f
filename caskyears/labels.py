"""Rules that labels tell, and whether they surely fit a cask of a cellar that nobody has seen."""

from caskyears.anew import built_anew
from caskyears.deeds import check_cask
from caskyears.errors import InvalidRecipe
from caskyears.fills import check_cellar, check_fill
from caskyears.fractions import ONE, ZERO, added, lessened, multiplied, negative, order, products
from caskyears.inequalities import all_hold, make, nothing, outcome, refuses
from caskyears.known import amount_factors, cellar_at, check_knowledge, fact_rows, point_at, rule_factors, system_of
from caskyears.recipes import is_for, is_some_recipe, table_by_marks
from caskyears.rules import check_kinds, check_rule, fits_fill


def fits(fill, rule):
    """Return whether a rule fits a fill."""
    check_fill(fill)
    check_rule(rule)
    return fits_fill(fill, rule)


def agrees(knowledge, cellar):
    """Return whether a cellar agrees with knowledge."""
    check_knowledge(knowledge)
    check_cellar(cellar)
    point = point_at(knowledge, cellar)
    return point is not None and all_hold(system_of(knowledge), point)


def rows_of(knowledge):
    """Return the system whose unknowns are the amounts, cask by cask, kinds ascending in each."""
    check_knowledge(knowledge)
    return system_of(knowledge)


def some_cellar(knowledge):
    """Return a cellar that agrees with knowledge, None if none does."""
    check_knowledge(knowledge)
    system = system_of(knowledge)
    found = outcome(system, nothing(system))
    return None if found[0] == "none" else cellar_at(knowledge, found[2])


def surely(knowledge, recipe, cask, rule):
    """Return whether behind a recipe a rule fits a cask for all cellars that agree with knowledge."""
    found = rule_outcome(knowledge, recipe, cask, rule)
    return found[0] == "none" or is_at_most_zero(found)


def counter(knowledge, recipe, cask, rule):
    """Return a cellar that agrees with knowledge and for which a rule does not fit a cask behind a recipe, or None."""
    found = rule_outcome(knowledge, recipe, cask, rule)
    if found[0] == "none" or is_at_most_zero(found):
        return None
    if found[0] == "value":
        return cellar_at(knowledge, found[2])
    _, way, point = found
    gap = lessened(ONE, products(aim_of(knowledge, recipe, cask, rule), point))
    step = gap if gap[0] > 0 else ZERO
    return cellar_at(knowledge, [added(here, multiplied(step, goes)) for here, goes in zip(point, way)])


def reason(knowledge, recipe, cask, rule):
    """Return multipliers that show that a rule surely fits a cask behind a recipe, None if it is not sure."""
    found = rule_outcome(knowledge, recipe, cask, rule)
    if found[0] == "none":
        return tuple(found[1])
    return tuple(found[3]) if is_at_most_zero(found) else None


def reason_holds(knowledge, recipe, cask, rule, value):
    """Return whether any object is multipliers that show that a rule surely fits a cask behind a recipe."""
    check_case(knowledge, recipe, cask)
    check_rule(rule)
    system = system_of(knowledge)
    return make(system, aim_of(knowledge, recipe, cask, rule), ZERO, value) or refuses(system, value)


def sure_least(knowledge, recipe, cask, kinds):
    """Return the greatest share that the kinds surely have at least in a cask behind a recipe."""
    check_case(knowledge, recipe, cask)
    check_kinds(kinds)
    found = end_of_share(knowledge, recipe, cask, kinds, negative(ONE))
    return ONE if found is None else negative(found)


def sure_most(knowledge, recipe, cask, kinds):
    """Return the least share that the kinds surely have at most in a cask behind a recipe."""
    check_case(knowledge, recipe, cask)
    check_kinds(kinds)
    found = end_of_share(knowledge, recipe, cask, kinds, ONE)
    return ZERO if found is None else found


def needless(knowledge):
    """Return the ascending list of the indexes of the facts that can each be left out alone."""
    check_knowledge(knowledge)
    return [at for at in range(len(knowledge[2])) if is_needless(knowledge, at)]


def check_case(knowledge, recipe, cask):
    """Raise an error for what are no knowledge, no recipe and no cask for as many casks."""
    check_knowledge(knowledge)
    if not is_some_recipe(recipe) or not is_for(recipe, knowledge[0]):
        raise InvalidRecipe(built_anew(recipe))
    check_cask(cask, knowledge[0])


def rule_outcome(knowledge, recipe, cask, rule):
    """Return how much a rule may be missed behind a recipe, all of which is checked here: it fits at 0 or less."""
    check_case(knowledge, recipe, cask)
    check_rule(rule)
    return outcome(system_of(knowledge), aim_of(knowledge, recipe, cask, rule))


def is_at_most_zero(found):
    """Return whether there is a greatest value, and it is at most 0."""
    return found[0] == "value" and found[1][0] <= 0


def aim_of(knowledge, recipe, cask, rule):
    """Return the factors of a rule behind a recipe as one of the amounts ahead of it."""
    return rule_factors(rule, knowledge[1], table_by_marks(recipe, knowledge[0])[cask])


def end_of_share(knowledge, recipe, cask, kinds, sign):
    """Return the greatest share of the kinds in a cask behind a recipe, times a sign, None if there is none at all.

    All amounts are taken so many times that one part is in the cask. Amounts that are endless count with no times.
    """
    number, rows = system_of(knowledge)
    if outcome((number, rows), (ZERO,) * number)[0] == "none":
        return None
    weights = table_by_marks(recipe, knowledge[0])[cask]
    whole = amount_factors(knowledge[1], knowledge[1], weights)
    part = amount_factors(kinds, knowledge[1], weights)
    taken = [(factors + (negative(bound),), ZERO) for factors, bound in rows]
    taken.append(((ZERO,) * number + (negative(ONE),), ZERO))
    taken.append((whole + (ZERO,), ONE))
    taken.append((tuple([negative(entry) for entry in whole]) + (ZERO,), negative(ONE)))
    aim = tuple([multiplied(sign, entry) for entry in part]) + (ZERO,)
    found = outcome((number + 1, tuple(taken)), aim)
    return found[1] if found[0] == "value" else None


def is_needless(knowledge, at):
    """Return whether the fact at an index may be left out alone."""
    casks, kinds, facts = knowledge
    others = system_of((casks, kinds, facts[:at] + facts[at + 1 :]))
    for factors, bound in fact_rows(facts[at], casks, kinds):
        found = outcome(others, factors)
        if found[0] == "endless" or (found[0] == "value" and order(found[1], bound) > 0):
            return False
    return True
