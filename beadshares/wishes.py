"""Wishes: how many beads of each kind each taker is to have."""

from beadshares.bounds import MAX_KINDS, MAX_WEIGHT
from beadshares.checks import are_whole, is_integer, is_row, is_whole
from beadshares.errors import BadTakers, BadWeights, Odd


def is_count_row(value):
    """Tell whether value is a number of beads for each kind."""
    if not is_row(value, MAX_KINDS, MAX_KINDS):
        return False
    return all([is_integer(number) and number >= 0 for number in value])


def wish_error(string, value):
    """Return the first word of what is wrong with value as a wish, or None."""
    if not is_row(value, 2, 3):
        return "takers"
    if not all([is_count_row(item) for item in value]):
        return "counts"
    sums = tuple([sum([item[kind] for item in value]) for kind in range(MAX_KINDS)])
    if sums != string.totals:
        return "sums"
    return None


def share_by(string, weights):
    """Return the wish by these weights; raise Odd where a share is no integer."""
    parts = sum(weights)
    for kind, total in enumerate(string.totals):
        if any([total * weight % parts != 0 for weight in weights]):
            raise Odd(kind)
    return tuple([tuple([total * weight // parts for total in string.totals]) for weight in weights])


def even(string, many):
    """Return the wish by which so many takers have alike."""
    if not is_whole(many, 2, 3):
        raise BadTakers(many)
    return share_by(string, (1,) * many)


def shares(string, weights):
    """Return the wish by which each taker has as much as its weight says."""
    if not is_row(weights, 2, 3) or not are_whole(weights, 1, MAX_WEIGHT):
        raise BadWeights(weights)
    return share_by(string, weights)
