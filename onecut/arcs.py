"""Arcs of the ring: tuples (low, high) of cuts, from low on, past the greatest cuts to 0 if need be, to below high.

An arc with equal ends is the whole ring.
"""

from math import lcm

from onecut.ratios import ONE, ZERO, rest_of
from onecut.spans import without


def arcs(cuts):
    """The arcs that a set of cuts is made of; none of them touches another one."""
    found = [(low, rest_of(high)) for low, high in cuts]
    if cuts and cuts[0][0] == ZERO and cuts[-1][1] == ONE:
        # The first span and the last one meet at 0.
        return found[1:-1] + [(found[-1][0], found[0][1])]
    return found


def gaps(cuts):
    """The arcs of the cuts that are not in the set."""
    return arcs(without([(ZERO, ONE)], cuts))


def _in_steps(ring):
    """The arcs as tuples (start, size) of integers, and the size of the whole ring in the same steps."""
    whole = 1
    for low, high in ring:
        whole = lcm(whole, low[1], high[1])
    rows = []
    for low, high in ring:
        start = low[0] * (whole // low[1])
        end = high[0] * (whole // high[1])
        # From 1 to whole: equal ends are the whole ring.
        rows.append((start, (end - start - 1) % whole + 1))
    return rows, whole


def _furthest(rows, whole, place):
    """The index of the row that goes on furthest from the place, and how far; None and 0 if none holds the place."""
    found = None
    most = 0
    for at, (start, size) in enumerate(rows):
        further = size - (place - start) % whole
        if further > most:
            found = at
            most = further
    return found, most


def _cover(rows, whole, place, size):
    """The indexes of the fewest rows that cover the ring from the place on, over the size; None if all do not."""
    chosen = []
    while size > 0:
        at, further = _furthest(rows, whole, place)
        if at is None:
            return None
        chosen.append(at)
        place = place + further
        size = size - further
    return chosen


def fewest_over(ring, target):
    """The indexes of as few arcs of the list as possible that cover the target, an arc; None if all do not."""
    rows, whole = _in_steps(ring + [target])
    start, size = rows[-1]
    return _cover(rows[:-1], whole, start, size)


def fewest_round(ring):
    """The indexes of as few arcs of the list as possible that cover the ring; None if all together do not."""
    rows, whole = _in_steps(ring)
    found = None
    # Begun where an arc of a smallest cover begins, the way round takes no more arcs than this cover has.
    for start, _ in rows:
        chosen = _cover(rows, whole, start, whole)
        if chosen is None:
            return None
        if found is None or len(chosen) < len(found):
            found = chosen
    return found
