"""Cells: the cuts between neighbouring points of the first days, which tell all stretches of these days alike."""

from math import lcm

from onecut.entries import point
from onecut.ratios import ONE
from onecut.spans import both


def points_up_to(entries, last):
    """The points of the days from 0 to the last one."""
    return [point(entries, day) for day in range(last + 1)]


def _ascending(points):
    """The points in ascending order, without duplicates."""
    whole = 1
    for _, under in points:
        whole = lcm(whole, under)
    steps = {top * (whole // under): (top, under) for top, under in points}
    return [steps[step] for step in sorted(steps)]


def cells(points, cuts):
    """The least cuts of the cells in which there are any of the cuts, ascending."""
    lows = _ascending(points)
    highs = lows[1:] + [ONE]
    return [low for low, high in zip(lows, highs) if both([(low, high)], cuts)]
