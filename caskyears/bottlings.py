"""Bottlings: what is made of the casks so that it is worth most, and price sheets that show that nothing is more."""

from caskyears.anew import built_anew
from caskyears.deeds import is_cask_of
from caskyears.errors import BadProducts
from caskyears.fills import amount_of, check_cellar, joined, scaled, size_of
from caskyears.fractions import ONE, ZERO, added, check_fraction, divided, is_above_zero, is_from_zero, lessened
from caskyears.fractions import multiplied, negative, order, total
from caskyears.inequalities import outcome
from caskyears.rules import fits_fill, is_rule


def worth(cellar, products, plan):
    """Return what a right plan is worth, None for any object that is none."""
    check_both(cellar, products)
    if not is_plan(plan, len(cellar), len(products)) or not is_right(cellar, products, plan):
        return None
    return total([multiplied(much, products[product][1]) for _, product, much in plan])


def best_plan(cellar, products):
    """Return a right plan of the greatest worth."""
    check_both(cellar, products)
    found = best_of(cellar, products)[2]
    pairs = pairs_of(cellar, products)
    return tuple([(cask, product, much) for (cask, product), much in zip(pairs, found) if much != ZERO])


def best_worth(cellar, products):
    """Return the greatest worth of a right plan."""
    check_both(cellar, products)
    return best_of(cellar, products)[1]


def sheets(cellar, products):
    """Return price sheets that cover and show just the greatest worth."""
    check_both(cellar, products)
    found = best_of(cellar, products)[3][len(pairs_of(cellar, products)) :]
    of_casks, found = found[: len(cellar)], found[len(cellar) :]
    of_products, of_rules = [], []
    for _, _, most in products:
        of_products.append(ZERO if most is None else found[0])
        found = found if most is None else found[1:]
    for rules, _, _ in products:
        of_rules.append(tuple(found[: len(rules)]))
        found = found[len(rules) :]
    return tuple(of_casks), tuple(of_products), tuple(of_rules)


def sheets_show(cellar, products, bound, value):
    """Return whether any object is price sheets that cover and show at most a bound."""
    check_both(cellar, products)
    check_fraction(bound)
    if not are_sheets(cellar, products, value):
        return False
    if not all([is_covered(cellar, products, value, cask, product) for cask, product in pairs_of(cellar, products)]):
        return False
    return order(shown_by(cellar, products, value), bound) <= 0


def is_product(value):
    """Return whether any object is a tuple of rules, a price and how much is made at most."""
    if not isinstance(value, tuple) or len(value) != 3 or not isinstance(value[0], tuple):
        return False
    if not all([is_rule(rule) for rule in value[0]]) or not is_from_zero(value[1]):
        return False
    return value[2] is None or is_from_zero(value[2])


def check_both(cellar, products):
    """Raise an error for what is no cellar, and for what are no products."""
    check_cellar(cellar)
    if not isinstance(products, tuple) or not all([is_product(entry) for entry in products]):
        raise BadProducts(built_anew(products))


def is_plan(value, casks, many):
    """Return whether any object is a plan for so many casks and products."""
    if not isinstance(value, tuple) or not all([is_plan_part(entry, casks, many) for entry in value]):
        return False
    return all([value[at][:2] < value[at + 1][:2] for at in range(len(value) - 1)])


def is_plan_part(value, casks, many):
    """Return whether any object is a tuple of a cask, a product and an amount above 0."""
    if not isinstance(value, tuple) or len(value) != 3:
        return False
    return is_cask_of(value[0], casks) and is_cask_of(value[1], many) and is_above_zero(value[2])


def is_right(cellar, products, plan):
    """Return whether a plan takes no more than there is, makes no more than is let, and keeps all rules."""
    for cask, fill in enumerate(cellar):
        if order(total([much for place, _, much in plan if place == cask]), size_of(fill)) > 0:
            return False
    for at, (rules, _, most) in enumerate(products):
        parts = [(cask, much) for cask, product, much in plan if product == at]
        if most is not None and order(total([much for _, much in parts]), most) > 0:
            return False
        made = joined([scaled(cellar[cask], divided(much, size_of(cellar[cask]))) for cask, much in parts])
        if not all([fits_fill(made, rule) for rule in rules]):
            return False
    return True


def pairs_of(cellar, products):
    """Return the ascending list of all tuples of a cask that is not empty and a product."""
    return [(cask, product) for cask, fill in enumerate(cellar) if fill for product in range(len(products))]


def best_of(cellar, products):
    """Return what outcome tells of the plans of greatest worth: the unknowns are the amounts of the pairs."""
    pairs = pairs_of(cellar, products)
    return outcome((len(pairs), tuple(rows_for(cellar, products, pairs))), tuple([products[at][1] for _, at in pairs]))


def rows_for(cellar, products, pairs):
    """Return the list of rows: no amount below 0, no cask with too little, no product with too much, all rules kept."""
    places = range(len(pairs))
    rows = [(tuple([negative(ONE) if other == place else ZERO for other in places]), ZERO) for place in places]
    for cask, fill in enumerate(cellar):
        rows.append((tuple([ONE if pair[0] == cask else ZERO for pair in pairs]), size_of(fill)))
    for at, (_, _, most) in enumerate(products):
        if most is not None:
            rows.append((tuple([ONE if pair[1] == at else ZERO for pair in pairs]), most))
    for at, (rules, _, _) in enumerate(products):
        for rule in rules:
            rows.append((tuple([short_of(cellar[pair[0]], rule) if pair[1] == at else ZERO for pair in pairs]), ZERO))
    return rows


def short_of(fill, rule):
    """Return by which share a fill that is not empty misses a rule, below 0 if it has more than the rule asks for."""
    kinds, sense, share = rule
    missing = lessened(share, divided(total([amount_of(fill, kind) for kind in kinds]), size_of(fill)))
    return missing if sense == "least" else negative(missing)


def are_amounts(value, many):
    """Return whether any object is a tuple of so many amounts."""
    return isinstance(value, tuple) and len(value) == many and all([is_from_zero(entry) for entry in value])


def are_sheets(cellar, products, value):
    """Return whether any object is price sheets."""
    if not isinstance(value, tuple) or len(value) != 3 or not are_amounts(value[0], len(cellar)):
        return False
    if not are_amounts(value[1], len(products)) or not isinstance(value[2], tuple) or len(value[2]) != len(products):
        return False
    for entry, price, (rules, _, most) in zip(value[2], value[1], products):
        if not are_amounts(entry, len(rules)) or (most is None and price != ZERO):
            return False
    return True


def is_covered(cellar, products, value, cask, product):
    """Return whether price sheets cover the price of a product as it is made of a cask that is not empty."""
    rules, price, _ = products[product]
    found = added(value[0][cask], value[1][product])
    for rule, much in zip(rules, value[2][product]):
        found = added(found, multiplied(much, short_of(cellar[cask], rule)))
    return order(price, found) <= 0


def shown_by(cellar, products, value):
    """Return the worth that price sheets show."""
    of_casks = [multiplied(size_of(fill), price) for fill, price in zip(cellar, value[0])]
    limited = [(most, price) for (_, _, most), price in zip(products, value[1]) if most is not None]
    return total(of_casks + [multiplied(most, price) for most, price in limited])
