"""Texts of fractions, fills, cellars, deeds, tables, rows and yearly cellars."""

from caskyears.anew import built_anew
from caskyears.deeds import is_deed
from caskyears.errors import InvalidDeed
from caskyears.fills import check_cellar, check_fill
from caskyears.fractions import check_fraction
from caskyears.rows import check_row
from caskyears.tables import check_table
from caskyears.yearly import check_yearly

SHORT_DIGITS = 60
SHORT = 10**60
# So many times a short piece is squared to one of 3840 digits.
SQUARES = 6


def show_fraction(fraction):
    """Return the text of a fraction."""
    check_fraction(fraction)
    return fraction_text(fraction)


def show_fill(fill):
    """Return the text of a fill."""
    check_fill(fill)
    return fill_text(fill)


def show_cellar(cellar):
    """Return the text of a cellar."""
    check_cellar(cellar)
    return " | ".join([fill_text(fill) for fill in cellar])


def show_deeds(deeds):
    """Return the text of a list or tuple of deeds."""
    for deed in deeds:
        if not is_deed(deed):
            raise InvalidDeed(built_anew(deed))
    return "; ".join([deed_text(deed) for deed in deeds]) if deeds else "-"


def show_table(table):
    """Return the text of a table."""
    check_table(table)
    return table_text(table)


def show_row(row):
    """Return the text of a row."""
    check_row(row)
    return numbers_text(row)


def show_yearly(yearly):
    """Return the text of a yearly cellar."""
    check_yearly(yearly)
    table, into, tap = yearly
    return " / ".join([table_text(table), numbers_text(into), numbers_text(tap)])


def fraction_text(fraction):
    """Return the text of what is known to be a fraction."""
    above, below = fraction
    return integer_text(above) if below == 1 else f"{integer_text(above)}/{integer_text(below)}"


def integer_text(number):
    """Return the text of an integer.

    Python refuses to write one of more than some thousand digits, so such a one is parted into pieces first.
    """
    if number < 0:
        return "-" + integer_text(-number)
    if number < SHORT:
        return str(number)
    piece = SHORT
    for _ in range(SQUARES):
        piece = piece * piece
    powers = [piece]
    while powers[-1] * powers[-1] <= number:
        powers.append(powers[-1] * powers[-1])
    return spelled(number, powers)


def spelled(number, powers):
    """Return the text of an integer below the square of the last power; each power is the square of the one ahead."""
    if not powers:
        return str(number)
    high, low = divmod(number, powers[-1])
    behind = spelled(low, powers[:-1])
    digits = SHORT_DIGITS << (SQUARES + len(powers) - 1)
    return spelled(high, powers[:-1]) + behind.zfill(digits) if high else behind


def numbers_text(fractions):
    """Return the texts of fractions with blanks between."""
    return " ".join([fraction_text(fraction) for fraction in fractions])


def fill_text(fill):
    """Return the text of what is known to be a fill."""
    return ", ".join([f"{kind} {fraction_text(much)}" for kind, much in fill]) if fill else "-"


def deed_text(deed):
    """Return the text of what is known to be a deed."""
    last = fill_text(deed[2]) if deed[0] == "add" else fraction_text(deed[-1])
    return " ".join([deed[0]] + [str(cask) for cask in deed[1:-1]] + [last])


def table_text(table):
    """Return the text of what is known to be a table."""
    return "; ".join([numbers_text(row) for row in table])
