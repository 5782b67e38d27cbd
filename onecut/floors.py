"""Sums of floors, and remainders between bounds, of sequences too long to be visited."""


def floor_sum(many, top, start, under):
    """The sum of floor((top * k + start) / under) for k from 0 to many - 1."""
    total = 0
    while many > 0:
        total = total + many * (many - 1) // 2 * (top // under) + many * (start // under)
        top = top % under
        start = start % under
        # What remains are the points below a flat line. Counted row by row instead of column by column,
        # they are again such a sum, and its numbers shrink as in Euclid's algorithm.
        end = top * many + start
        many, top, start, under = end // under, under, end % under, top
    return total


def rests_within(many, top, start, under, low, high):
    """How many k from 0 to many - 1 have a remainder of top * k + start modulo under from low to high."""
    # Lowered by low, a number keeps its floor exactly if its remainder is not below low.
    return floor_sum(many, top, start - low, under) - floor_sum(many, top, start - high - 1, under)


def _first_multiple(step, under, low, high):
    """The least k for which step * k modulo under is from low to high, or None.

    step is from 0 to under - 1, and 0 < low <= high < under.
    """
    outer = []
    while step > 0 and low + -low % step > high:
        # No multiple of step lies between the bounds themselves. How often under has to be added to both
        # until one does is the same question with smaller numbers, modulo step.
        outer.append((step, under, low))
        step, under, low, high = under % step, step, step - high % step, step - low % step
    if step == 0:
        return None
    found = -(-low // step)
    for outer_step, outer_under, outer_low in reversed(outer):
        found = -(-(outer_low + outer_under * found) // outer_step)
    return found


def first_within(many, top, start, under, low, high):
    """The least k from 0 to many - 1 with a remainder of top * k + start modulo under from low to high, or None."""
    if many == 0:
        return None
    # Without start the bounds move, round the ring of the remainders.
    least = (low - start) % under
    greatest = (high - start) % under
    if least == 0 or least > greatest:
        # The remainder 0 lies between them, which is that of k = 0.
        return 0
    found = _first_multiple(top % under, under, least, greatest)
    if found is None or found >= many:
        return None
    return found
