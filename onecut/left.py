"""The cuts that are left by a ledger, and what they tell."""

from onecut.entries import exact, point, sum_before
from onecut.kinds import check_cut, check_stretch
from onecut.ratios import ONE, ZERO, floor_of, is_less, lowest, plus
from onecut.spans import arc, both, has, length


def choices(entries, stretch):
    """The numbers that cuts tell for the stretch, ascending, each with the set of the cuts that tell it."""
    first, many = stretch
    lesser = floor_of(exact(entries, stretch))
    start = point(entries, first)
    end = point(entries, first + many)
    if start == end:
        # The exact amount is an integer, and every cut tells it.
        return [(lesser, [(ZERO, ONE)])]
    return [(lesser, arc(start, end)), (lesser + 1, arc(end, start))]


def _telling(entries, stretch, number):
    """The set of the cuts that tell the number for the stretch."""
    for choice, cuts in choices(entries, stretch):
        if choice == number:
            return cuts
    return []


def allowed(entries, statement):
    """The set of the cuts that tell the stretch of the statement as stated."""
    _, first, many, number = statement
    return _telling(entries, (first, many), number)


def telling_all(entries, statements):
    """The set of the cuts that tell the stretches of all the statements as stated."""
    cuts = [(ZERO, ONE)]
    for statement in statements:
        cuts = both(cuts, allowed(entries, statement))
    return cuts


def left(ledger):
    """The set of the cuts that are left by the ledger."""
    return telling_all(ledger.entries(), ledger.statements())


def told(ledger, cut, stretch):
    """The integer that the cut tells for the stretch, whatever the statements."""
    check_cut(cut)
    check_stretch(stretch)
    entries = ledger.entries()
    first, many = stretch
    before = floor_of(plus(sum_before(entries, first), cut))
    return floor_of(plus(sum_before(entries, first + many), cut)) - before


def _possible(cuts, offered):
    """Those of the numbers offered by choices that some of the cuts tell, each with the set of these cuts."""
    pairs = [(number, both(cuts, telling)) for number, telling in offered]
    return [pair for pair in pairs if pair[1]]


def numbers(ledger, stretch):
    """The possible numbers for the stretch, ascending."""
    check_stretch(stretch)
    possible = _possible(left(ledger), choices(ledger.entries(), stretch))
    return [pair[0] for pair in possible]


def cut_for(ledger, stretch, number):
    """The least cut left that tells this number for the stretch, or None."""
    check_stretch(stretch)
    cuts = both(left(ledger), _telling(ledger.entries(), stretch, number))
    return cuts[0][0] if cuts else None


def average(ledger, stretch):
    """The average of the numbers that the cuts left tell for the stretch, or None if no cut is left."""
    check_stretch(stretch)
    cuts = left(ledger)
    if not cuts:
        return None
    weighed = ZERO
    for number, telling in _possible(cuts, choices(ledger.entries(), stretch)):
        top, under = length(telling)
        weighed = plus(weighed, (number * top, under))
    whole = length(cuts)
    return lowest(weighed[0] * whole[1], weighed[1] * whole[0])


def together(ledger, stretches):
    """The ascending list of the tuples of numbers that one cut left tells for all of the stretches."""
    for stretch in stretches:
        check_stretch(stretch)
    entries = ledger.entries()
    cuts = left(ledger)
    found = [((), cuts)] if cuts else []
    for stretch in stretches:
        offered = choices(entries, stretch)
        # Each tuple goes on with its lesser number first, so the longer tuples are in ascending order, too.
        longer = []
        for row, telling in found:
            longer.extend([(row + (pair[0],), pair[1]) for pair in _possible(telling, offered)])
        found = longer
    return [pair[0] for pair in found]


def best(ledger, wishes):
    """The greatest weight of wishes that one cut left tells so, with the least such cut; None if no cut is left."""
    for wish in wishes:
        check_stretch(wish[0])
    entries = ledger.entries()
    cuts = left(ledger)
    weighed = [(_telling(entries, stretch, number), weight) for stretch, number, weight in wishes]
    # From one cut to greater ones, the weight grows only where the cuts of a wish begin.
    starts = [span[0] for span in cuts]
    for telling, _ in weighed:
        starts.extend([span[0] for span in telling if has(cuts, span[0])])
    found = None
    for cut in starts:
        total = sum([pair[1] for pair in weighed if has(pair[0], cut)])
        if found is None or total > found[0] or (total == found[0] and is_less(cut, found[1])):
            found = (total, cut)
    return found
