"""Fewer statements that say the same, and questions that settle everything."""

from onecut.arcs import fewest_over, gaps
from onecut.cells import cells, is_last, points_up_to
from onecut.errors import BadDay, NothingLeft
from onecut.left import left
from onecut.statements import barred, days_by_point, statement_between


def _some_left(ledger):
    """The set of the cuts left; raises NothingLeft if there are none."""
    cuts = left(ledger)
    if not cuts:
        raise NothingLeft("no cut is left")
    return cuts


def record(ledger):
    """As few statements as possible that leave the same cuts."""
    entries = ledger.entries()
    cuts = _some_left(ledger)
    days = days_by_point(entries, ledger.statements())
    # Each gap takes a statement of its own: what one statement rules out lies side by side.
    return [statement_between(entries, days[high], days[low]) for low, high in gaps(cuts)]


def needed(ledger):
    """The numbers of as few statements of the ledger as possible that leave the same cuts."""
    cuts = _some_left(ledger)
    rows = barred(ledger)
    arcs = [arc for _, arc in rows]
    chosen = []
    for gap in gaps(cuts):
        chosen.extend(fewest_over(arcs, gap))
    return tuple(sorted([rows[at][0] for at in chosen]))


def _tree(days, lows):
    """A question tree for cells, of which the least cuts are given; days are those that have them as points."""
    if len(lows) == 1:
        return ("sure",)
    half = len(lows) // 2
    start = days[lows[0]]
    end = days[lows[half]]
    before = _tree(days, lows[:half])
    behind = _tree(days, lows[half:])
    # From the point of the stretch's first day up to that of its end, the lesser number is told.
    if start < end:
        return ("ask", start, end - start, before, behind)
    return ("ask", end, start - end, behind, before)


def plan(ledger, last):
    """A question tree for the days up to the last one, with as few asks as possible in the worst case."""
    if not is_last(last):
        raise BadDay("the last day of a plan is an integer from 0 to 200")
    cuts = _some_left(ledger)
    points = points_up_to(ledger.entries(), last)
    days = {place: day for day, place in enumerate(points)}
    return _tree(days, cells(points, cuts))
