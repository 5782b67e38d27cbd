"""Cells: the cuts between neighbouring points of the first days, which tell all stretches of these days alike."""

from math import lcm

from onecut.entries import point
from onecut.ratios import ONE, is_int
from onecut.spans import both

# The greatest last day of a question tree.
MOST_DAYS = 200


def is_last(thing):
    """Whether any thing is a last day of a question tree."""
    return is_int(thing) and 0 <= thing <= MOST_DAYS


def points_up_to(entries, last):
    """The points of the days from 0 to the last one."""
    return [point(entries, day) for day in range(last + 1)]


def _ascending(points):
    """The points in ascending order, without duplicates."""
    whole = 1
    for _, under in points:
        whole = lcm(whole, under)
    steps = {top * (whole // under): (top, under) for top, under in points}
    return [steps[step] for step in sorted(steps)]


def cells(points, cuts):
    """The least cuts of the cells in which there are any of the cuts, ascending."""
    lows = _ascending(points)
    highs = lows[1:] + [ONE]
    return [low for low, high in zip(lows, highs) if both([(low, high)], cuts)]


def fewest_asks(many):
    """How many asks it takes in the worst case to find one of that many cells."""
    # Each ask has two answers, and it can part the cells in half, as cells side by side can be asked for.
    return (many - 1).bit_length()
