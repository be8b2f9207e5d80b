"""Dealings: cuts of a string, and the takers of the pieces."""

from beadshares.bounds import MAX_CUTS, MAX_KINDS
from beadshares.checks import are_whole, is_ascending, is_row


def are_cuts(string, value):
    """Tell whether value is a tuple of cuts of the string."""
    if not is_row(value, 0, MAX_CUTS) or not are_whole(value, 1, string.length - 1):
        return False
    return is_ascending(value)


def are_takers(many, cuts, value):
    """Tell whether value is a tuple of takers of the pieces of so many cuts."""
    if not is_row(value, cuts + 1, cuts + 1) or not are_whole(value, 0, many - 1):
        return False
    return all([ahead != taker for ahead, taker in zip(value, value[1:])])


def dealing_error(string, many, value):
    """Return the first word of what is wrong with value as a dealing, or None."""
    if not is_row(value, 2, 2):
        return "dealing"
    cuts, takers = value
    if not are_cuts(string, cuts):
        return "cuts"
    if not are_takers(many, len(cuts), takers):
        return "takers"
    return None


def dealt(string, many, dealing):
    """Return how many beads of each kind each of so many takers has."""
    cuts, takers = dealing
    places = (0, *cuts, string.length)
    held = [[0] * MAX_KINDS for taker in range(many)]
    for first, last, taker in zip(places, places[1:], takers):
        for kind, number in enumerate(string.counts(first, last)):
            held[taker][kind] += number
    return tuple([tuple(row) for row in held])


def is_right(string, wish, value):
    """Tell whether value is a dealing that gives each taker what it wishes."""
    if dealing_error(string, len(wish), value) is not None:
        return False
    return dealt(string, len(wish), value) == wish
