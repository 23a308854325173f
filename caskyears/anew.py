"""Copies of what was passed, for errors that store it."""


def built_anew(value):
    """Return the object with all lists and tuples in it built anew, all else in it as it is."""
    if isinstance(value, list):
        return [built_anew(entry) for entry in value]
    if isinstance(value, tuple):
        return tuple([built_anew(entry) for entry in value])
    return value
