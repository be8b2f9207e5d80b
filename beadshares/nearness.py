"""How near dealings come to a wish, and windows of half a string."""

from beadshares.bounds import MAX_KINDS
from beadshares.errors import BadTakers, NoDealing
from beadshares.layouts import amounts, first_dealing, layouts, run_ahead
from beadshares.wishes import even


def nearest_row(string, row, layout):
    """Return the amounts nearest to a row of wished ones that taker 0 can have."""
    found = []
    for kind in range(MAX_KINDS):
        least, greatest = amounts(string, layout, kind, (0,))
        found.append(min(max(row[kind], least), greatest))
    return tuple(found)


def miss_of(row, wished):
    """Return the sum of the differences, each without its sign."""
    return sum([abs(number - other) for number, other in zip(row, wished)])


def nearest(string, wish, cuts):
    """Return the least miss with so many cuts, and a dealing with this miss."""
    if len(wish) == 3:
        raise BadTakers(3)
    best = None
    for layout in layouts(string, 2, cuts):
        # Each run has one kind, so taker 0's amounts of unlike kinds do not bind each other.
        row = nearest_row(string, wish[0], layout)
        miss = miss_of(row, wish[0])
        if best is None or miss < best[0]:
            best = (miss, row, layout)
    if best is None:
        raise NoDealing(cuts)
    miss, row, layout = best
    rest = tuple([total - number for total, number in zip(string.totals, row)])
    return miss, first_dealing(string, (row, rest), layout)


def kind_behind(string, place):
    """Return the kind of the bead behind a place."""
    return string[run_ahead(string, place + 1)][0]


def marked_places(string, span):
    """Return the places up to span where one end of a window passes a run's end."""
    ends = [0]
    for kind, length in string.runs:
        ends.append(ends[-1] + length)
    # The front end of a window stands at the place, its other end span places behind.
    return sorted({place for end in ends for place in (end, end - span) if 0 <= place <= span})


def windows_between(string, half, first, last):
    """Return the pair of the first and the last window between two marked places, or None."""
    span = string.length // 2
    lost, gained = kind_behind(string, first), kind_behind(string, first + span)
    begin, end = first, last
    if lost != gained:
        # Each step loses a bead of one kind and gains one of another: one place can do.
        begin = end = first + string.counts(first, first + span)[lost] - half[lost]
    if not first <= begin <= last or string.counts(begin, begin + span) != half:
        return None
    return begin, end


def windows(string):
    """Return the rows of windows as pairs of places, ascending; none touch."""
    half = even(string, 2)[0]
    marks = marked_places(string, string.length // 2)
    found = []
    for first, last in zip(marks, marks[1:]):
        pair = windows_between(string, half, first, last)
        if pair is None:
            continue
        if found and pair[0] <= found[-1][1] + 1:
            found[-1] = (found[-1][0], pair[1])
        else:
            found.append(pair)
    return tuple(found)
