"""Tests of the kind of any value, for all files of the package."""


def is_integer(thing):
    """Tell whether any value is an integer."""
    return isinstance(thing, int) and not isinstance(thing, bool)


def is_whole(thing, low, high):
    """Tell whether any value is an integer from low to high."""
    # A bool is an int for Python, but never an integer here.
    return isinstance(thing, int) and not isinstance(thing, bool) and low <= thing <= high


def is_row(thing, length):
    """Tell whether any value is a tuple with so many parts."""
    return isinstance(thing, tuple) and len(thing) == length
