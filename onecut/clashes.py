"""Statements that contradict each other."""

from onecut.arcs import fewest_round
from onecut.left import allowed
from onecut.spans import has
from onecut.statements import barred, most_told, numbered_statements


def clash(ledger):
    """The numbers of as few statements as possible that no cut tells all as stated; None if some cut is left."""
    rows = barred(ledger)
    chosen = fewest_round([arc for _, arc in rows])
    if chosen is None:
        return None
    return tuple(sorted([rows[at][0] for at in chosen]))


def repair(ledger):
    """The numbers of the fewest statements without which some cut is left, and the least cut that is then left."""
    entries = ledger.entries()
    cut = most_told(entries, ledger.statements())[1]
    rows = numbered_statements(ledger)
    dropped = [number for number, statement in rows if not has(allowed(entries, statement), cut)]
    return (tuple(dropped), cut)
