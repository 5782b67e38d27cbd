"""Papers: results in a form in which onecut.checker accepts or rejects them by itself."""

from onecut.clashes import clash, repair
from onecut.compare import parting
from onecut.left import left
from onecut.records import plan, record
from onecut.statements import numbered_statements


def paper(ledger):
    """That the ledger leaves some cut, with the least one, or that it leaves none, with a clash."""
    cuts = left(ledger)
    if cuts:
        return ("fits", ledger.entries(), ledger.statements(), cuts[0][0])
    chosen = clash(ledger)
    statements = [statement for number, statement in numbered_statements(ledger) if number in chosen]
    return ("clash", ledger.entries(), statements)


def drop_paper(ledger):
    """Which statements have to be dropped, as few as possible, and the least cut that tells all others."""
    numbers, cut = repair(ledger)
    rows = numbered_statements(ledger)
    dropped = [at for at, row in enumerate(rows) if row[0] in numbers]
    return ("drop", ledger.entries(), ledger.statements(), dropped, cut)


def record_paper(ledger):
    """Fewest statements that leave the same cuts."""
    return ("record", ledger.entries(), ledger.statements(), record(ledger))


def plan_paper(ledger, last):
    """A question tree for the days up to the last one."""
    return ("plan", ledger.entries(), ledger.statements(), last, plan(ledger, last))


def apart_paper(one, other):
    """A statement that is possible in just one of the ledgers, which comes first; None if both leave the same cuts."""
    found = parting(one, other)
    if found is None:
        return None
    statement, which = found
    mine, theirs = (one, other) if which == 0 else (other, one)
    return ("apart", one.entries(), mine.statements(), theirs.statements(), statement)
