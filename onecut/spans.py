"""Sets of cuts: lists of spans (low, high), ascending, that neither overlap nor touch."""

from onecut.ratios import ONE, ZERO, is_less, is_ratio, minus, plus


def _is_span(thing):
    if not (isinstance(thing, tuple) and len(thing) == 2):
        return False
    low, high = thing
    if not (is_ratio(low) and is_ratio(high)):
        return False
    return not is_less(low, ZERO) and is_less(low, high) and not is_less(ONE, high)


def is_cuts(thing):
    """Whether any thing is a set of cuts."""
    if not isinstance(thing, list) or not all([_is_span(span) for span in thing]):
        return False
    return all([is_less(span[1], after[0]) for span, after in zip(thing, thing[1:])])


def arc(low, high):
    """The cuts from low up to below high, round the ring; none if they are equal."""
    if low == high:
        return []
    if is_less(low, high):
        return [(low, high)]
    before = [] if high == ZERO else [(ZERO, high)]
    return before + [(low, ONE)]


def both(one, other):
    """The cuts that are in both sets."""
    # Spans that touch cannot come out: one of the two sets has a gap behind each end.
    found = []
    at = by = 0
    while at < len(one) and by < len(other):
        low, high = one[at]
        other_low, other_high = other[by]
        start = other_low if is_less(low, other_low) else low
        if is_less(high, other_high):
            end = high
            at += 1
        else:
            end = other_high
            by += 1
        if is_less(start, end):
            found.append((start, end))
    return found


def _gaps(one):
    """The set of all cuts that are not in the set."""
    gaps = []
    start = ZERO
    for low, high in one:
        if is_less(start, low):
            gaps.append((start, low))
        start = high
    if is_less(start, ONE):
        gaps.append((start, ONE))
    return gaps


def without(one, other):
    """The cuts of the first set that are not in the second one."""
    return both(one, _gaps(other))


def length(one):
    """The sum of high - low over the set, a ratio."""
    total = ZERO
    for low, high in one:
        total = plus(total, minus(high, low))
    return total


def has(one, cut):
    """Whether the cut is in the set."""
    return any([not is_less(cut, low) and is_less(cut, high) for low, high in one])
