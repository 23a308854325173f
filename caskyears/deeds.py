"""Deeds: what is moved, swapped, drawn, kept and added in a cellar."""

from caskyears.anew import built_anew
from caskyears.errors import BadCask, InvalidDeed
from caskyears.fills import check_cellar, is_fill, joined, scaled
from caskyears.fractions import ONE, is_integer, is_share, lessened


def is_deed(value):
    """Return whether any object is a deed."""
    if not isinstance(value, tuple) or not 3 <= len(value) <= 4 or not isinstance(value[0], str):
        return False
    if not is_cask(value[1]):
        return False
    if value[0] in ("move", "swap"):
        return len(value) == 4 and is_cask(value[2]) and value[1] != value[2] and is_share(value[3])
    if value[0] in ("draw", "keep"):
        return len(value) == 3 and is_share(value[2])
    return value[0] == "add" and len(value) == 3 and is_fill(value[2])


def is_cask(value):
    """Return whether any object is a number that a cask may have."""
    return is_integer(value) and value >= 0


def is_cask_of(value, casks):
    """Return whether any object is the number of one of so many casks."""
    return is_cask(value) and value < casks


def is_place(value, casks):
    """Return whether any object is the number of one of so many casks, or of any number if this is None."""
    return is_cask(value) if casks is None else is_cask_of(value, casks)


def check_cask(value, casks):
    """Raise an error for what is not the number of one of so many casks."""
    if not is_cask_of(value, casks):
        raise BadCask(built_anew(value))


def has_casks(deed, casks):
    """Return whether a deed has no cask but those of so many."""
    return deed[1] < casks and (deed[0] not in ("move", "swap") or deed[2] < casks)


def done(cellar, deed):
    """Return the cellar behind a deed."""
    check_deeds(cellar, [deed])
    return behind_deed(cellar, deed)


def run(cellar, deeds):
    """Return the list of the cellar and of those behind each deed of a list."""
    check_deeds(cellar, deeds)
    return stages_of(cellar, deeds)


def drawn(cellar, deeds):
    """Return the fill of all that is drawn."""
    check_deeds(cellar, deeds)
    return gone_by("draw", cellar, deeds)


def lost(cellar, deeds):
    """Return the fill of all that is lost by keeps."""
    check_deeds(cellar, deeds)
    return gone_by("keep", cellar, deeds)


def check_deeds(cellar, deeds):
    """Raise an error for what is no cellar, and for the first entry that is no deed for its casks."""
    check_cellar(cellar)
    for deed in deeds:
        if not is_deed(deed) or not has_casks(deed, len(cellar)):
            raise InvalidDeed(built_anew(deed))


def stages_of(cellar, deeds):
    """Return the list of the cellar and of those behind each deed, all known to be so."""
    stages = [cellar]
    for deed in deeds:
        stages.append(behind_deed(stages[-1], deed))
    return stages


def gone_by(word, cellar, deeds):
    """Return the fill of all that leaves the cellar by deeds of a word."""
    gone = []
    for deed, ahead in zip(deeds, stages_of(cellar, deeds)):
        if deed[0] == word:
            gone.append(scaled(ahead[deed[1]], share_gone(deed)))
    return joined(gone)


def share_gone(deed):
    """Return the share of its cask that a draw or a keep takes away."""
    return deed[2] if deed[0] == "draw" else lessened(ONE, deed[2])


def behind_deed(cellar, deed):
    """Return the cellar behind a deed, both known to be so."""
    fills = list(cellar)
    first = fills[deed[1]]
    if deed[0] == "add":
        fills[deed[1]] = joined([first, deed[2]])
    elif deed[0] in ("draw", "keep"):
        fills[deed[1]] = scaled(first, lessened(ONE, share_gone(deed)))
    else:
        second, share, stays = fills[deed[2]], deed[3], lessened(ONE, deed[3])
        back = scaled(second, share) if deed[0] == "swap" else ()
        kept = scaled(second, stays) if deed[0] == "swap" else second
        fills[deed[1]] = joined([scaled(first, stays), back])
        fills[deed[2]] = joined([kept, scaled(first, share)])
    return tuple(fills)
