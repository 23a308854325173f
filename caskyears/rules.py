"""Rules: at least or at most a share of what is in a cask is of some kinds."""

from caskyears.anew import built_anew
from caskyears.errors import BadRule
from caskyears.fills import amount_of, is_kind, size_of
from caskyears.fractions import is_share, multiplied, order, total


def are_kinds(value):
    """Return whether any object is a non-empty ascending tuple of kinds."""
    if not isinstance(value, tuple) or not value or not all([is_kind(kind) for kind in value]):
        return False
    return all([value[at] < value[at + 1] for at in range(len(value) - 1)])


def is_rule(value):
    """Return whether any object is a rule."""
    if not isinstance(value, tuple) or len(value) != 3 or not are_kinds(value[0]):
        return False
    return isinstance(value[1], str) and value[1] in ("least", "most") and is_share(value[2])


def check_rule(value):
    """Raise an error for what is no rule."""
    if not is_rule(value):
        raise BadRule(built_anew(value))


def check_kinds(value):
    """Raise an error for what are no kinds of a rule."""
    if not are_kinds(value):
        raise BadRule(built_anew(value))


def fits_fill(fill, rule):
    """Return whether a rule fits a fill, both known to be so."""
    kinds, sense, share = rule
    sign = order(total([amount_of(fill, kind) for kind in kinds]), multiplied(share, size_of(fill)))
    return sign >= 0 if sense == "least" else sign <= 0
