"""Tests of values that may be anything."""


def is_whole(value, low, high):
    """Tell whether value is an integer from low to high."""
    # True and False are integers to Python, but not to this package.
    if isinstance(value, bool) or not isinstance(value, int):
        return False
    return low <= value <= high


def is_row(value, low, high):
    """Tell whether value is a tuple of low to high items."""
    return isinstance(value, tuple) and low <= len(value) <= high
