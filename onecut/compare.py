"""Two ledgers with the same amounts, side by side."""

from onecut.arcs import fewest_round, gaps
from onecut.entries import amount
from onecut.errors import Unlike
from onecut.kinds import LAST_DAY
from onecut.left import left, told
from onecut.rounds import ROUND, segments
from onecut.spans import arc, both, has, without
from onecut.statements import barred, days_by_point, statement_between


def first_unlike(one, other):
    """The least day on which the amounts of the two ledgers differ, or None."""
    entries = one.entries()
    others = other.entries()
    for first, many in segments(entries + others, 0, LAST_DAY):
        # A round later the amounts are the same again.
        for day in range(first, first + min(many, ROUND)):
            if amount(entries, day) != amount(others, day):
                return day
    return None


def _check_alike(one, other):
    day = first_unlike(one, other)
    if day is not None:
        raise Unlike(day)


def joined(one, other):
    """The set of the cuts that both ledgers leave."""
    _check_alike(one, other)
    return both(left(one), left(other))


def joint_clash(one, other):
    """The numbers of the statements of either ledger, as few together as possible, that no cut tells all as stated.

    None if both ledgers together leave some cut.
    """
    _check_alike(one, other)
    mine = barred(one)
    rows = mine + barred(other)
    chosen = fewest_round([row[1] for row in rows])
    if chosen is None:
        return None
    many = len(mine)
    first = sorted([rows[at][0] for at in chosen if at < many])
    second = sorted([rows[at][0] for at in chosen if at >= many])
    return (tuple(first), tuple(second))


def _parted(cut, ledger):
    """A statement that the cut tells as stated, but no cut that the ledger leaves; the cut is none of these."""
    entries = ledger.entries()
    days = days_by_point(entries, ledger.statements())
    for low, high in gaps(left(ledger)):
        if has(arc(low, high), cut):
            return statement_between(entries, days[low], days[high])
    # No cut is left, so whatever the cut tells is possible only where the cut itself is left.
    return ("statement", 0, 1, told(ledger, cut, (0, 1)))


def parting(one, other):
    """A statement that is possible in just one of the ledgers, and 0 or 1 for this ledger.

    None if both leave the same cuts.
    """
    _check_alike(one, other)
    cuts = left(one)
    others = left(other)
    for which, only, ledger in ((0, without(cuts, others), other), (1, without(others, cuts), one)):
        if only:
            return (_parted(only[0][0], ledger), which)
    return None
