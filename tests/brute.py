"""Dealings of short strings, told bead by bead, to hold the program against."""

import itertools
from fractions import Fraction

from beadshares.strings import String

MOST_CUTS = 4


def beads_of(string):
    """Return the number of the run and the kind of each bead."""
    return [(number, kind) for number, (kind, length) in enumerate(string.runs)
            for _ in range(length)]


def taker_rows(many, cuts):
    return [row for row in itertools.product(range(many), repeat=cuts + 1)
            if all(a != b for a, b in zip(row, row[1:]))]


def dealings(string, many, cuts):
    """Return all dealings with so many cuts, ascending."""
    places = itertools.combinations(range(1, string.length), cuts)
    return list(itertools.product(places, taker_rows(many, cuts)))


def layout(string, dealing):
    beads = beads_of(string)
    return tuple(beads[cut - 1][0] for cut in dealing[0]), dealing[1]


def held(string, many, dealing):
    cuts, takers = dealing
    counts = [[0] * 4 for _ in range(many)]
    for place, (_, kind) in enumerate(beads_of(string)):
        piece = sum(cut <= place for cut in cuts)
        counts[takers[piece]][kind] += 1
    return tuple(map(tuple, counts))


def wishes(string, many):
    """Return all wishes of the string."""
    def splits(total):
        return [row for row in itertools.product(range(total + 1), repeat=many)
                if sum(row) == total]
    return [tuple(zip(*rows)) for rows in itertools.product(*map(splits, string.totals))]


def groups(many):
    return [some for size in range(1, many) for some in itertools.combinations(range(many), size)]


def miss(string, wish, dealing):
    """Return how far what taker 0 has is from what it wishes."""
    return sum(abs(a - b) for a, b in zip(held(string, 2, dealing)[0], wish[0]))


def windows(string):
    """Return all places from which on half of the beads have half of each kind."""
    kinds = [kind for _, kind in beads_of(string)]
    span = len(kinds) // 2
    return [place for place in range(len(kinds) - span + 1)
            if all(2 * kinds[place:place + span].count(kind) == string.totals[kind]
                   for kind in range(4))]


def ring_dealings(string, cuts):
    """Return all ring dealings with so many cuts."""
    return list(itertools.product(itertools.combinations(range(string.length), cuts), (0, 1)))


def ring_held(string, dealing):
    """Return what both takers have, going along the ring from its first cut on."""
    cuts, taker = dealing
    kinds = [kind for _, kind in beads_of(string)]
    counts = [[0] * 4, [0] * 4]
    begin = cuts[0] if cuts else 0
    for step in range(len(kinds)):
        place = (begin + step) % len(kinds)
        if place in cuts and step > 0:
            taker = 1 - taker
        counts[taker][kinds[place]] += 1
    return tuple(map(tuple, counts))


def lengths_of(pattern):
    """Return all lengths of a pattern."""
    return list(itertools.product(*[range(low, high + 1, step) for _, low, high, step in pattern]))


def plan_is_right(pattern, weights, plan, lengths):
    """Tell whether a plan is right for lengths, which may be great; word for word as [18]."""
    cuts, takers = plan
    values = [Fraction(constant + sum(map(int.__mul__, factors, lengths)), bottom)
              for _, (bottom, constant, factors) in cuts]
    if any(value.denominator != 1 for value in values):
        return False
    if any(not 1 <= value <= lengths[number] for value, (number, _) in zip(values, cuts)):
        return False
    places = [sum(lengths[:number]) + int(value) for value, (number, _) in zip(values, cuts)]
    ends = [0, *places, sum(lengths)]
    if any(a >= b for a, b in zip(ends, ends[1:])):
        return False
    for kind in range(4):
        total = sum(length for item, length in zip(pattern, lengths) if item[0] == kind)
        for taker, weight in enumerate(weights):
            has = 0
            for at, (item, length) in enumerate(zip(pattern, lengths)):
                first = sum(lengths[:at])
                has += sum(max(0, min(b, first + length) - max(a, first))
                           for a, b, owner in zip(ends, ends[1:], takers)
                           if owner == taker and item[0] == kind)
            if has * sum(weights) != total * weight:
                return False
    return True


class Table:
    """All dealings of a string for so many takers, by their layouts."""

    def __init__(self, string, many, most=MOST_CUTS):
        self.string, self.many, self.most = string, many, most
        self.by_layout = [{} for _ in range(most + 1)]
        for cuts in range(most + 1):
            for dealing in dealings(string, many, cuts):
                row = self.by_layout[cuts].setdefault(layout(string, dealing), [])
                row.append((dealing[0], held(string, many, dealing)))

    def layouts(self, cuts):
        return tuple(sorted(self.by_layout[cuts]))

    def amounts(self, of, kind, some):
        sums = [sum(held[taker][kind] for taker in some)
                for _, held in self.by_layout[len(of[0])][of]]
        return min(sums), max(sums)

    def right(self, wish, of):
        """Return the cuts of all right dealings with a layout, ascending."""
        return [cuts for cuts, held in self.by_layout[len(of[0])][of] if held == wish]

    def possible(self, wish, cuts):
        return tuple(of for of in self.layouts(cuts) if self.right(wish, of))

    def is_paper(self, wish, cuts, value):
        """Tell whether claims, each a triple with a layout, are a paper."""
        if sorted(claim[0] for claim in value) != sorted(self.by_layout[cuts]):
            return False
        for of, kind, some in value:
            least, greatest = self.amounts(of, kind, some)
            if least <= sum(wish[taker][kind] for taker in some) <= greatest:
                return False
        return True


SHORT = [String(runs) for runs in (
    ((0, 1),), ((2, 2),), ((1, 5),),
    ((0, 1), (1, 1)), ((0, 2), (3, 1)), ((0, 3), (1, 4)),
    ((0, 2), (1, 2), (0, 2)), ((1, 1), (0, 4), (1, 1)), ((0, 1), (1, 3), (2, 2)),
    ((0, 2), (1, 1), (0, 1), (1, 2)), ((3, 2), (0, 1), (2, 2), (3, 2)),
    ((0, 1), (1, 1), (2, 1), (3, 1)), ((0, 1), (1, 1), (2, 1), (3, 1), (0, 1)),
    ((0, 1), (1, 1), (0, 1), (1, 1), (0, 1), (1, 1)),
    ((0, 1), (1, 2), (0, 2), (2, 1), (1, 1), (0, 1)),
)]
