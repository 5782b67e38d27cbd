"""What statements rule out, and the statements that just certain cuts tell as stated."""

from onecut.arcs import gaps
from onecut.entries import exact, point
from onecut.ledger import Ledger
from onecut.left import allowed, best
from onecut.ratios import floor_of


def numbered_statements(ledger):
    """The tuples (number, statement) of the ledger, in ascending order."""
    return [(number, item) for number, item in ledger.numbered() if item[0] == "statement"]


def barred(ledger):
    """The tuples (number, arc): which cuts do not tell the statement with this number as stated.

    A statement that all cuts tell has no tuple.
    """
    entries = ledger.entries()
    rows = numbered_statements(ledger)
    return [(number, gap) for number, statement in rows for gap in gaps(allowed(entries, statement))]


def most_told(entries, statements):
    """How many of the statements one cut can tell as stated, and the least cut that tells so many."""
    wishes = [((first, many), number, 1) for _, first, many, number in statements]
    return best(Ledger.of(entries), wishes)


def days_by_point(entries, statements):
    """For each point at which a stretch of the statements begins or ends, the least such day that has it, a dict."""
    days = []
    for _, first, many, _ in statements:
        days.extend([first, first + many])
    found = {}
    for day in sorted(days):
        place = point(entries, day)
        if place not in found:
            found[place] = day
    return found


def statement_between(entries, low, high):
    """The statement that is told by just the cuts from the point of the day low up to below that of the day high."""
    # From the point of a stretch's first day on its lesser number is told, from the point of its end on the greater.
    first = min(low, high)
    many = max(low, high) - first
    lesser = floor_of(exact(entries, (first, many)))
    return ("statement", first, many, lesser if low < high else lesser + 1)
