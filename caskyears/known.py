"""Knowledge of a cellar that nobody has seen, as a system whose unknowns are the amounts, cask by cask."""

from caskyears.anew import built_anew
from caskyears.deeds import is_cask_of
from caskyears.errors import BadKnowledge
from caskyears.fills import MOST_CASKS, amount_of, fill_from, is_kind, kinds_of
from caskyears.fractions import ONE, ZERO, is_from_zero, is_integer, lessened, multiplied, negative
from caskyears.rules import are_kinds, is_rule

MOST_FACTS = 8


def is_knowledge(value):
    """Return whether any object is knowledge of a cellar."""
    if not isinstance(value, tuple) or len(value) != 3:
        return False
    casks, kinds, facts = value
    if not is_integer(casks) or not 1 <= casks <= MOST_CASKS or not are_kinds(kinds):
        return False
    if not isinstance(facts, tuple) or len(facts) > MOST_FACTS:
        return False
    return all([is_fact(fact, casks, kinds) for fact in facts])


def is_fact(value, casks, kinds):
    """Return whether any object is a fact about so many casks and these kinds."""
    if not isinstance(value, tuple) or len(value) < 3 or not isinstance(value[0], str):
        return False
    if value[0] == "sum":
        return len(value) == 4 and is_kind_of(value[1], kinds) and are_bounds(value[2], value[3])
    if not is_cask_of(value[1], casks):
        return False
    if value[0] == "size":
        return len(value) == 4 and are_bounds(value[2], value[3])
    if value[0] == "amount":
        return len(value) == 5 and is_kind_of(value[2], kinds) and are_bounds(value[3], value[4])
    if value[0] != "rule" or len(value) != 3 or not is_rule(value[2]):
        return False
    return all([kind in kinds for kind in value[2][0]])


def is_kind_of(value, kinds):
    """Return whether any object is one of the kinds."""
    return is_kind(value) and value in kinds


def are_bounds(low, high):
    """Return whether any two objects are an amount and an amount or None."""
    return is_from_zero(low) and (high is None or is_from_zero(high))


def check_knowledge(value):
    """Raise an error for what is no knowledge."""
    if not is_knowledge(value):
        raise BadKnowledge(built_anew(value))


def system_of(knowledge):
    """Return the system of knowledge: no amount is below 0, and all facts are true."""
    casks, kinds, facts = knowledge
    number = casks * len(kinds)
    rows = [(tuple([negative(ONE) if at == place else ZERO for at in range(number)]), ZERO) for place in range(number)]
    for fact in facts:
        rows.extend(fact_rows(fact, casks, kinds))
    return number, tuple(rows)


def fact_rows(fact, casks, kinds):
    """Return the list of the rows of a fact."""
    if fact[0] == "rule":
        return [(rule_factors(fact[2], kinds, one_cask(fact[1], casks)), ZERO)]
    low, high = fact[-2], fact[-1]
    if fact[0] == "sum":
        factors = amount_factors((fact[1],), kinds, [ONE] * casks)
    else:
        counted = (fact[2],) if fact[0] == "amount" else kinds
        factors = amount_factors(counted, kinds, one_cask(fact[1], casks))
    found = [(tuple([negative(factor) for factor in factors]), negative(low))]
    if high is not None:
        found.append((factors, high))
    return found


def one_cask(cask, casks):
    """Return the list of weights by which one cask alone counts."""
    return [ONE if at == cask else ZERO for at in range(casks)]


def amount_factors(counted, kinds, weights):
    """Return the factors of the unknowns for the amounts of the counted kinds, the casks by their weights."""
    return tuple([weight if kind in counted else ZERO for weight in weights for kind in kinds])


def rule_factors(rule, kinds, weights):
    """Return the factors of the row of a rule for what casks give by weights; it holds if they come to at most 0."""
    counted, sense, share = rule
    short = [lessened(share, ONE if kind in counted else ZERO) for kind in kinds]
    if sense == "most":
        short = [negative(entry) for entry in short]
    return tuple([multiplied(weight, entry) for weight in weights for entry in short])


def cellar_at(knowledge, point):
    """Return the cellar whose amounts are a point."""
    casks, kinds, _ = knowledge
    many = len(kinds)
    parts = [point[many * cask : many * cask + many] for cask in range(casks)]
    return tuple([fill_from({kind: much for kind, much in zip(kinds, amounts)}) for amounts in parts])


def point_at(knowledge, cellar):
    """Return the point of the amounts of a cellar, None if it has another number of casks or other kinds."""
    casks, kinds, _ = knowledge
    if len(cellar) != casks or not all([kind in kinds for kind in kinds_of(cellar)]):
        return None
    return tuple([amount_of(fill, kind) for fill in cellar for kind in kinds])
