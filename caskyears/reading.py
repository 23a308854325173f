"""What texts say of fractions, fills, cellars, deeds, tables, rows and yearly cellars."""

from caskyears.anew import built_anew
from caskyears.deeds import is_deed
from caskyears.errors import Unreadable
from caskyears.fills import is_cellar, is_fill
from caskyears.fractions import is_fraction, is_share
from caskyears.rows import is_row
from caskyears.tables import is_table
from caskyears.texts import numbers_text, show_cellar, show_deeds, show_fill, show_fraction, show_row, show_table
from caskyears.texts import show_yearly
from caskyears.yearly import is_yearly

DIGITS = "0123456789"
MOST_DIGITS = 40


def read_fraction(text):
    """Return the fraction that has a text."""
    check_text(text)
    value = said_fraction(text)
    if not is_fraction(value) or show_fraction(value) != text:
        raise Unreadable(text)
    return value


def read_fill(text):
    """Return the fill that has a text."""
    check_text(text)
    value = said_fill(text)
    if not is_fill(value) or show_fill(value) != text:
        raise Unreadable(text)
    return value


def read_cellar(text):
    """Return the cellar that has a text."""
    check_text(text)
    value = cellar_in(text)
    if value is None:
        raise Unreadable(text)
    return value


def read_deeds(text):
    """Return the tuple of the deeds that have a text."""
    check_text(text)
    value = () if text == "-" else tuple([said_deed(part) for part in text.split("; ")])
    if not all([is_deed(deed) for deed in value]) or show_deeds(value) != text:
        raise Unreadable(text)
    return value


def read_table(text):
    """Return the table that has a text."""
    check_text(text)
    value = said_table(text)
    if not is_table(value) or show_table(value) != text:
        raise Unreadable(text)
    return value


def read_row(text):
    """Return the row that has a text."""
    check_text(text)
    value = said_numbers(text)
    if not is_row(value) or show_row(value) != text:
        raise Unreadable(text)
    return value


def read_yearly(text):
    """Return the yearly cellar that has a text."""
    check_text(text)
    parts = text.split(" / ")
    value = (said_table(parts[0]),) + tuple([said_numbers(part) for part in parts[1:]])
    if not is_yearly(value) or show_yearly(value) != text:
        raise Unreadable(text)
    return value


def check_text(value):
    """Raise an error for any object that is no text."""
    if not isinstance(value, str):
        raise Unreadable(built_anew(value))


def cellar_in(text):
    """Return the cellar that has a text, None if none has it."""
    value = tuple([said_fill(part) for part in text.split(" | ")])
    return value if is_cellar(value) and show_cellar(value) == text else None


def deed_in(text):
    """Return the deed that has a text by itself, None if none has it."""
    value = said_deed(text)
    return value if is_deed(value) and show_deeds((value,)) == text else None


def shares_in(text):
    """Return the tuple of shares that has a text, with blanks between, None if none has it."""
    value = said_numbers(text)
    return value if all([is_share(entry) for entry in value]) and numbers_text(value) == text else None


def integer_in(text):
    """Return the integer that has a text, None if none has it."""
    value = said_integer(text)
    return value if value is not None and str(value) == text else None


def said_integer(text):
    """Return the integer that a text may say, None if it is none or too long."""
    digits = text[1:] if text.startswith("-") else text
    if not 1 <= len(digits) <= MOST_DIGITS or not all([digit in DIGITS for digit in digits]):
        return None
    return int(text)


def said_fraction(text):
    """Return the fraction that a text may say; whoever asks finds out whether it is one and has this text."""
    above, _, below = text.partition("/")
    return said_integer(above), said_integer(below) if below else 1


def said_numbers(text):
    """Return the tuple of fractions that a text may say, with blanks between."""
    return tuple([said_fraction(part) for part in text.split(" ")])


def said_table(text):
    """Return the table that a text may say."""
    return tuple([said_numbers(part) for part in text.split("; ")])


def said_fill(text):
    """Return the fill that a text may say."""
    if text == "-":
        return ()
    parts = [part.partition(" ") for part in text.split(", ")]
    return tuple([(kind, said_fraction(much)) for kind, _, much in parts])


def said_deed(text):
    """Return the deed that a text may say."""
    words = text.split(" ")
    if words[0] == "add" and len(words) > 2:
        return words[0], said_integer(words[1]), said_fill(" ".join(words[2:]))
    return tuple(words[:1] + [said_integer(word) for word in words[1:-1]]) + (said_fraction(words[-1]),)
