"""Tests of values that may be anything."""


def is_integer(value):
    """Tell whether value is an integer."""
    # True and False are integers to Python, but not to this package.
    return isinstance(value, int) and not isinstance(value, bool)


def is_whole(value, low, high):
    """Tell whether value is an integer from low to high."""
    return is_integer(value) and low <= value <= high


def is_row(value, low, high):
    """Tell whether value is a tuple of low to high items."""
    return isinstance(value, tuple) and low <= len(value) <= high


def are_whole(values, low, high):
    """Tell whether all these values are integers from low to high."""
    return all([is_whole(value, low, high) for value in values])


def is_ascending(numbers):
    """Tell whether each of these integers is greater than the one ahead of it."""
    return all([ahead < number for ahead, number in zip(numbers, numbers[1:])])
