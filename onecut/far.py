"""Days that are too many to be visited: the first ones of a kind, and how many there are.

A window is a tuple (shift, least, size): it holds the days before which the sum plus shift, less its floor, is below
size, and not 0 if least is 1.
"""

from math import lcm

from onecut.entries import point
from onecut.floors import first_within, rests_within
from onecut.kinds import LAST_DAY, check_cut, check_day, check_stretch
from onecut.left import left
from onecut.ratios import ONE, ZERO, is_less, minus, plus, rest_of
from onecut.rounds import ROUND, progressions, segments
from onecut.spans import arc, both


def _unsure_window(ledger, start):
    """The window of the days with which a stretch that begins at start is not sure; None if no cut is left."""
    cuts = left(ledger)
    if not cuts:
        return None
    place = point(ledger.entries(), start)
    # The cuts left, in the order in which the ring passes them from the point of start on.
    spans = both(cuts, [(place, ONE)]) + both(cuts, arc(ZERO, place))
    low = spans[0][0]
    high = spans[-1][1]
    # Both numbers are told exactly if the day's point lies between these two, and is none of them.
    size = rest_of(minus(high, low))
    return (high, 1, ONE if size == ZERO else size)


def _apart_window(one, other):
    """The window of the days up to which the two cuts tell all days differently."""
    low, high = (one, other) if is_less(one, other) else (other, one)
    # The greater cut lifts the sum to an integer that the other one does not reach.
    return (high, 0, minus(high, low))


def _rests(row, window):
    """What the functions of onecut.floors take to search a progression for the days of a window."""
    _, many, total, step = row
    shift, least, size = window
    total = plus(total, shift)
    under = lcm(total[1], step[1])
    # The greatest rest, in parts of under, that is below size.
    most = -(-size[0] * under // size[1]) - 1
    return (many, step[0] * (under // step[1]), total[0] * (under // total[1]), under, least, most)


def _first_inside(row, window):
    """The index of the first day of a progression that is in the window, or None."""
    many, top, start, under, low, high = _rests(row, window)
    if low > high:
        return None
    return first_within(many, top, start, under, low, high)


def _many_inside(row, window):
    """How many days of a progression are in the window."""
    many, top, start, under, low, high = _rests(row, window)
    if low > high:
        return 0
    return rests_within(many, top, start, under, low, high)


def _first_reaching(row, aim):
    """The index of the first day of a progression before which the sum is not below the aim, or None."""
    _, many, total, step = row
    missing = minus(aim, total)
    if missing[0] <= 0:
        return 0
    if step[0] <= 0:
        return None
    found = -(-missing[0] * step[1] // (missing[1] * step[0]))
    return found if found < many else None


def _first_day(entries, since, first_in):
    """The least day from since on that first_in finds in any progression, or None."""
    for segment in segments(entries, since, LAST_DAY + 1):
        found = [(row[0], first_in(row)) for row in progressions(entries, segment)]
        days = [day + ROUND * at for day, at in found if at is not None]
        if days:
            return min(days)
    return None


def _count(entries, start, end, window):
    """How many days from start up to below end are in the window."""
    total = 0
    for segment in segments(entries, start, end):
        total = total + sum([_many_inside(row, window) for row in progressions(entries, segment)])
    return total


def first_unsure(ledger, start, *, since=0):
    """The least day from since on that ends a stretch from start on that is not sure, or None."""
    check_day(start)
    check_day(since)
    window = _unsure_window(ledger, start)
    if window is None:
        return None
    return _first_day(ledger.entries(), max(start + 1, since), lambda row: _first_inside(row, window))


def count_unsure(ledger, start, first, many):
    """How many of the days of the stretch end a stretch from start on that is not sure."""
    check_day(start)
    check_stretch((first, many))
    window = _unsure_window(ledger, start)
    if window is None:
        return 0
    return _count(ledger.entries(), max(start + 1, first), first + many, window)


def first_apart(ledger, one, other, *, since=0):
    """The least day from since on up to which the two cuts tell all days differently, or None."""
    check_cut(one)
    check_cut(other)
    check_day(since)
    window = _apart_window(one, other)
    return _first_day(ledger.entries(), since, lambda row: _first_inside(row, window))


def count_apart(ledger, one, other, first, many):
    """How many of the days of the stretch are days up to which the two cuts tell all days differently."""
    check_cut(one)
    check_cut(other)
    check_stretch((first, many))
    return _count(ledger.entries(), first, first + many, _apart_window(one, other))


def first_total(ledger, cut, number):
    """The least day up to which the cut tells at least the number for all days, or None."""
    check_cut(cut)
    aim = minus((number, 1), cut)
    return _first_day(ledger.entries(), 0, lambda row: _first_reaching(row, aim))
