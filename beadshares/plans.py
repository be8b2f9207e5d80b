"""Plans: cuts told by formulas, for strings whose lengths are not known."""

from beadshares.bounds import (
    MAX_BOTTOM, MAX_CUTS, MAX_FACTOR, MAX_KINDS, MAX_LENGTH, MAX_RUNS, MAX_STEP)
from beadshares.checks import are_whole, is_row, is_whole
from beadshares.dealings import are_takers, is_right
from beadshares.errors import Odd
from beadshares.layouts import layout_of
from beadshares.strings import String
from beadshares.wishes import shares


def item_fault(item):
    """Return the first word of what is wrong with an item by itself, or None."""
    if not is_row(item, 4, 4):
        return "item"
    kind, low, high, step = item
    if not is_whole(kind, 0, MAX_KINDS - 1):
        return "kind"
    if not is_whole(low, 1, MAX_LENGTH) or not is_whole(high, low, MAX_LENGTH):
        return "bounds"
    if not is_whole(step, 1, MAX_STEP):
        return "step"
    return None


def pattern_error(value):
    """Return the number of the first wrong item and its word, or None for a pattern."""
    if not is_row(value, 1, MAX_RUNS):
        return None, "pattern"
    kind_ahead = None
    for number, item in enumerate(value):
        word = item_fault(item)
        if word is not None:
            return number, word
        kind = item[0]
        if kind == kind_ahead:
            return number, "same"
        kind_ahead = kind
    return None


def string_of(pattern, lengths):
    """Return the string of these lengths of the pattern."""
    return String(tuple([(item[0], length) for item, length in zip(pattern, lengths)]))


def is_formula(many, value):
    """Tell whether value is a formula for a pattern of so many items."""
    if not is_row(value, 3, 3):
        return False
    bottom, constant, factors = value
    if not is_whole(bottom, 1, MAX_BOTTOM) or not is_whole(constant, -MAX_LENGTH, MAX_LENGTH):
        return False
    return is_row(factors, many, many) and are_whole(factors, -MAX_FACTOR, MAX_FACTOR)


def are_plan_cuts(pattern, value):
    """Tell whether value is a tuple of cuts of a plan."""
    if not is_row(value, 0, MAX_CUTS):
        return False
    least = 0
    for cut in value:
        if not is_row(cut, 2, 2) or not is_whole(cut[0], least, len(pattern) - 1):
            return False
        if not is_formula(len(pattern), cut[1]):
            return False
        least = cut[0]
    return True


def plan_error(pattern, many, value):
    """Return the first word of what is wrong with value as a plan, or None."""
    if not is_row(value, 2, 2):
        return "plan"
    cuts, takers = value
    if not are_plan_cuts(pattern, cuts):
        return "cuts"
    if not are_takers(many, len(cuts), takers):
        return "takers"
    return None


def top_of(formula, lengths):
    """Return what the bottom of a formula divides."""
    bottom, constant, factors = formula
    return constant + sum([factor * length for factor, length in zip(factors, lengths)])


def plan_dealing(pattern, plan, lengths):
    """Return the places of the cuts of a plan for lengths, and the takers."""
    cuts, takers = plan
    places = [sum(lengths[:number]) + top_of(formula, lengths) // formula[0]
              for number, formula in cuts]
    return tuple(places), takers


def is_right_for(pattern, weights, plan, lengths):
    """Tell whether a plan is right for lengths of its pattern."""
    cuts = plan[0]
    if any([top_of(formula, lengths) % formula[0] != 0 for number, formula in cuts]):
        return False
    string = string_of(pattern, lengths)
    dealing = plan_dealing(pattern, plan, lengths)
    try:
        wish = shares(string, weights)
    except Odd:
        return False
    if not is_right(string, wish, dealing):
        return False
    return layout_of(string, dealing)[0] == tuple([number for number, formula in cuts])


def corners(pattern):
    """Return the lengths of the pattern each of which is a least or a greatest one."""
    rows = [()]
    for kind, low, high, step in pattern:
        greatest = high - (high - low) % step
        ends = [low] if greatest == low else [low, greatest]
        rows = [row + (end,) for row in rows for end in ends]
    return rows


def single_steps(pattern):
    """Return the lengths of the pattern that are the least ones but for one step of one."""
    leasts = tuple([low for kind, low, high, step in pattern])
    return [leasts[:at] + (low + step,) + leasts[at + 1:]
            for at, (kind, low, high, step) in enumerate(pattern) if low + step <= high]


def fails(pattern, weights, plan):
    """Return lengths of the pattern for which the plan is not right, or None.

    A few lengths decide for all. What a plan must hold to is linear in the lengths.
    That a sum of them can be divided, or equals another one, holds for all lengths if
    it holds for the least ones and behind a single step of each: the values are integers
    then, and the takers have their shares. That a sum is not below another one holds for
    all if it holds at the corners: the cuts lie in their runs then, one behind the other.
    """
    for lengths in corners(pattern) + single_steps(pattern):
        if not is_right_for(pattern, weights, plan, lengths):
            return lengths
    return None
