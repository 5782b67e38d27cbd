"""Days on which the same entries give amounts, and the sums before them, a round of the patterns apart."""

from onecut.entries import sum_before
from onecut.ratios import ZERO, minus

# After so many days every pattern of 1 to 4 amounts is at the same place again.
ROUND = 12


def segments(entries, start, end):
    """The days from start up to below end, parted where an entry begins or ends: tuples (first, many), ascending."""
    if start >= end:
        return []
    days = [start, end]
    for _, first, many, _ in entries:
        days.extend([day for day in (first, first + many) if start < day < end])
    days = sorted(set(days))
    return [(day, after - day) for day, after in zip(days, days[1:])]


def progressions(entries, segment):
    """The days of a segment whose distance is whole rounds, together: tuples (day, many, total, step).

    The sums before the days day, day + ROUND and so on, many of them, are total, total + step and so on.
    """
    first, many = segment
    step = ZERO
    if many > ROUND:
        step = minus(sum_before(entries, first + ROUND), sum_before(entries, first))
    days = range(first, first + min(many, ROUND))
    return [(day, (first + many - 1 - day) // ROUND + 1, sum_before(entries, day), step) for day in days]
