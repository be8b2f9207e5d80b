"""Rings: strings that are closed, and their dealings."""

from beadshares.bounds import MAX_CUTS, MAX_KINDS
from beadshares.checks import are_whole, is_ascending, is_row, is_whole
from beadshares.cutting import deal
from beadshares.errors import BadRing, BadTakers


def is_ring_dealing(string, value):
    """Tell whether value is a ring dealing."""
    if not is_row(value, 2, 2):
        return False
    cuts, first = value
    if not is_row(cuts, 0, MAX_CUTS) or len(cuts) % 2 != 0:
        return False
    if not are_whole(cuts, 0, string.length - 1) or not is_ascending(cuts):
        return False
    return is_whole(first, 0, 1)


def beads_from_cuts(string, cuts):
    """Return what the taker of the beads from the first cut on has."""
    if not cuts:
        return string.totals
    held = [0] * MAX_KINDS
    for first, last in zip(cuts[::2], cuts[1::2]):
        for kind, number in enumerate(string.counts(first, last)):
            held[kind] += number
    return tuple(held)


def ring_dealt(string, value):
    """Return how many beads of each kind both takers of a ring dealing have."""
    if not is_ring_dealing(string, value):
        raise BadRing()
    cuts, first = value
    held = beads_from_cuts(string, cuts)
    rest = tuple([total - number for total, number in zip(string.totals, held)])
    return (held, rest) if first == 0 else (rest, held)


def ring_deal(string, wish):
    """Return a ring dealing with as few cuts as can be that meets the wish, or None."""
    if len(wish) == 3:
        raise BadTakers(3)
    dealing = deal(string, wish)
    if dealing is None:
        return None
    # A ring is a string with a cut at place 0 if the end pieces have unlike takers, and
    # without it if they have one. So the fewest cuts of the string, made even, are the ring's.
    cuts, takers = dealing
    if len(cuts) % 2 != 0:
        return (0, *cuts), takers[0]
    return cuts, takers[1] if cuts else takers[0]
