"""How few cuts a wish needs, and papers that so many cuts never do."""

from beadshares.bounds import MAX_CUTS, MAX_KINDS
from beadshares.checks import are_whole, is_ascending, is_row, is_whole
from beadshares.layouts import amounts, demands, first_dealing, is_layout, layouts, overfed


def possible(string, wish, cuts):
    """Return the layouts with so many cuts with which a dealing is right, ascending."""
    asked = demands(string, wish)
    return tuple([layout for layout in layouts(string, len(wish), cuts)
                  if overfed(string, layout, asked) is None])


def first_possible(string, wish, cuts):
    """Return the first of possible, or None."""
    asked = demands(string, wish)
    for layout in layouts(string, len(wish), cuts):
        if overfed(string, layout, asked) is None:
            return layout
    return None


def fewest_layout(string, wish):
    """Return the first of possible for the fewest cuts, or None."""
    for cuts in range(MAX_CUTS + 1):
        layout = first_possible(string, wish, cuts)
        if layout is not None:
            return layout
    return None


def fewest(string, wish):
    """Return the least number of cuts with which some dealing is right, or None."""
    layout = fewest_layout(string, wish)
    return None if layout is None else len(layout[0])


def deal(string, wish):
    """Return a right dealing with the fewest cuts, or None."""
    layout = fewest_layout(string, wish)
    return None if layout is None else first_dealing(string, wish, layout)


def paper(string, wish, cuts):
    """Return a paper for so many cuts, or None if some dealing with them is right."""
    asked = demands(string, wish)
    claims = []
    for layout in layouts(string, len(wish), cuts):
        fault = overfed(string, layout, asked)
        if fault is None:
            return None
        claims.append((layout, *fault))
    return tuple(claims)


def is_group(many, value):
    """Tell whether value is an ascending tuple of takers, not none and not all."""
    if not is_row(value, 1, many - 1) or not are_whole(value, 0, many - 1):
        return False
    return is_ascending(value)


def is_claim(string, wish, cuts, value):
    """Tell whether value is a claim for the wish with a layout with so many cuts."""
    if not is_row(value, 3, 3):
        return False
    layout, kind, some = value
    if not is_layout(string, len(wish), layout) or len(layout[0]) != cuts:
        return False
    if not is_whole(kind, 0, MAX_KINDS - 1) or not is_group(len(wish), some):
        return False
    least, greatest = amounts(string, layout, kind, some)
    return not least <= sum([wish[taker][kind] for taker in some]) <= greatest


def paper_holds(string, wish, cuts, value):
    """Tell whether value is a paper for so many cuts."""
    if not isinstance(value, tuple):
        return False
    for item in value:
        if not is_claim(string, wish, cuts, item):
            return False
    told = {claim[0] for claim in value}
    # Layouts that are all unlike are all there are just if they are as many.
    return len(told) == len(value) and len(told) == len(layouts(string, len(wish), cuts))
