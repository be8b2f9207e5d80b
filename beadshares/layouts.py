"""Layouts: in which runs the cuts of a dealing lie, and the takers of its pieces.

A run, or what known cuts leave of it, is a block: a triple (kind, length,
pieces). A piece is a pair (taker, least): least is the least number of beads
that it can have. The pieces of a block share its length in any way that gives
each its least. So a group of takers can have any number of beads between two
bounds, block by block, and what all of them have is right just if it keeps to
the bounds of every group.
"""

from beadshares.bounds import MAX_CUTS
from beadshares.checks import are_whole, is_row
from beadshares.dealings import are_takers


def run_ahead(string, place):
    """Return the number of the run in which the bead ahead of a place is."""
    end = 0
    for number, (kind, length) in enumerate(string.runs):
        end += length
        if place <= end:
            return number
    return None


def layout_of(string, dealing):
    """Return the layout of a dealing."""
    cuts, takers = dealing
    return tuple([run_ahead(string, cut) for cut in cuts]), takers


def has_room(string, places):
    """Tell whether each run has beads enough for the cuts that are to lie in it."""
    last = len(string) - 1
    for number, (kind, length) in enumerate(string.runs):
        # Behind the string's last bead there is no cut.
        most = length - 1 if number == last else length
        if places.count(number) > most:
            return False
    return True


def are_places(string, value):
    """Tell whether value is a tuple of numbers of runs in which cuts can lie."""
    if not is_row(value, 0, MAX_CUTS) or not are_whole(value, 0, len(string) - 1):
        return False
    if any([ahead > number for ahead, number in zip(value, value[1:])]):
        return False
    return has_room(string, value)


def is_layout(string, many, value):
    """Tell whether value is a layout of a dealing for so many takers."""
    if not is_row(value, 2, 2):
        return False
    places, takers = value
    return are_places(string, places) and are_takers(many, len(places), takers)


def place_rows(string, cuts):
    """Return the rows of numbers of runs in which so many cuts can lie, ascending."""
    rows = [()]
    for step in range(cuts):
        rows = [row + (number,) for row in rows
                for number in range(row[-1] if row else 0, len(string))]
    return [row for row in rows if has_room(string, row)]


def taker_rows(many, cuts):
    """Return the rows of takers of the pieces of so many cuts, ascending."""
    rows = [(taker,) for taker in range(many)]
    for step in range(cuts):
        rows = [row + (taker,) for row in rows for taker in range(many) if taker != row[-1]]
    return rows


def layouts(string, many, cuts):
    """Return all layouts with so many cuts, ascending."""
    if not 0 <= cuts <= MAX_CUTS:
        return ()
    rows = taker_rows(many, cuts)
    return tuple([(places, takers) for places in place_rows(string, cuts) for takers in rows])


def blocks_of(string, layout):
    """Return the runs as blocks, with the pieces into which the layout cuts them."""
    places, takers = layout
    blocks = []
    ahead = 0
    for number, (kind, length) in enumerate(string.runs):
        behind = ahead + places.count(number)
        # A cut may lie at the end of its run, unless the string ends there.
        end_least = 1 if number == len(string) - 1 else 0
        pieces = [(taker, 1) for taker in takers[ahead:behind]]
        pieces.append((takers[behind], end_least))
        blocks.append((kind, length, pieces))
        ahead = behind
    return blocks


def are_all_of(pieces, some):
    """Tell whether all these pieces belong to these takers."""
    for taker, least in pieces:
        if taker not in some:
            return False
    return True


def sum_leasts(pieces, some):
    """Return the sum of the leasts of those pieces that belong to these takers."""
    return sum([least for taker, least in pieces if taker in some])


def least_of(block, some):
    """Return the least number of a block's beads that these takers have together."""
    kind, length, pieces = block
    if are_all_of(pieces, some):
        return length
    return sum_leasts(pieces, some)


def greatest_of(block, some):
    """Return the greatest number of a block's beads that these takers have together."""
    kind, length, pieces = block
    others = [taker for taker, least in pieces if taker not in some]
    return length - least_of(block, others)


def least_of_kind(blocks, kind, some):
    """Return the least number of beads of a kind that these takers have together."""
    return sum([least_of(block, some) for block in blocks if block[0] == kind])


def amounts(string, layout, kind, some):
    """Return the least and the greatest number of beads of a kind that some can have."""
    blocks = blocks_of(string, layout)
    greatest = sum([greatest_of(block, some) for block in blocks if block[0] == kind])
    return least_of_kind(blocks, kind, some), greatest


def groups(many):
    """Return the ascending tuples of takers that are not none and not all of them."""
    found = [()]
    for taker in range(many):
        found = found + [some + (taker,) for some in found]
    return found[1:-1]


def demands(string, wish):
    """Return triples: a kind, a group of takers, and what these wish of it together."""
    return [(kind, some, sum([wish[taker][kind] for taker in some]))
            for kind in string.kinds for some in groups(len(wish))]


def overfed(string, layout, asked):
    """Return a kind and a group that wishes less of it than it must have, or None.

    What a group can have at most is what the other takers leave it. So one that
    wishes too much tells of another that wishes too little.
    """
    blocks = blocks_of(string, layout)
    for kind, some, number in asked:
        if least_of_kind(blocks, kind, some) > number:
            return kind, some
    return None


def can(string, wish, layout):
    """Tell whether some dealing with this layout is right."""
    return overfed(string, layout, demands(string, wish)) is None


def front_range(blocks, wish, at, many):
    """Return the least and the greatest length of the first many pieces of a block.

    These are told for right dealings; there must be one.
    """
    kind, length, pieces = blocks[at]
    front, behind = pieces[:many], pieces[many:]
    others = blocks[:at] + blocks[at + 1:]
    low = sum([least for taker, least in front])
    high = length - sum([least for taker, least in behind])
    for some in groups(len(wish)):
        room = sum([wish[taker][kind] for taker in some]) - least_of_kind(others, kind, some)
        has_front, has_behind = are_all_of(front, some), are_all_of(behind, some)
        # In the other two cases the length makes no difference to this group.
        if has_front and not has_behind:
            high = min(high, room - sum_leasts(behind, some))
        if has_behind and not has_front:
            low = max(low, length + sum_leasts(front, some) - room)
    return low, high


def ranges(string, wish, layout):
    """Return the least and the greatest place of each cut in right dealings, or None."""
    if not can(string, wish, layout):
        return None
    blocks = blocks_of(string, layout)
    found = []
    begin = 0
    for at, (kind, length, pieces) in enumerate(blocks):
        for many in range(1, len(pieces)):
            low, high = front_range(blocks, wish, at, many)
            found.append((begin + low, begin + high))
        begin += length
    return tuple(found)


def first_dealing(string, wish, layout):
    """Return the right dealing with this layout whose cuts come first, or None."""
    if not can(string, wish, layout):
        return None
    blocks = blocks_of(string, layout)
    cuts = []
    begin = at = 0
    while at < len(blocks):
        kind, length, pieces = blocks[at]
        if len(pieces) > 1:
            # The cut that is chosen makes two blocks; the second one holds the next cuts.
            low = front_range(blocks, wish, at, 1)[0]
            blocks[at:at + 1] = [(kind, low, pieces[:1]), (kind, length - low, pieces[1:])]
            cuts.append(begin + low)
        begin += blocks[at][1]
        at += 1
    return tuple(cuts), layout[1]
