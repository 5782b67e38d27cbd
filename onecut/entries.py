"""The amounts that entries give: of a day, of a stretch, and of all days before a day."""

from onecut.kinds import check_day, check_stretch
from onecut.ratios import ZERO, minus, plus, rest_of


def _total(ratios):
    """The sum of a list of ratios."""
    total = ZERO
    for ratio in ratios:
        total = plus(total, ratio)
    return total


def _given_on(entry, day):
    """What the entry gives on the day."""
    _, first, many, amounts = entry
    if first <= day < first + many:
        return amounts[(day - first) % len(amounts)]
    return ZERO


def _given_before(entry, day):
    """The sum of what the entry gives on all days below the day."""
    _, first, many, amounts = entry
    rounds, rest = divmod(min(max(day - first, 0), many), len(amounts))
    times = [rounds + 1 if at < rest else rounds for at in range(len(amounts))]
    return _total([(top * often, under) for often, (top, under) in zip(times, amounts)])


def amount(entries, day):
    """The amount of the day."""
    check_day(day)
    return _total([_given_on(entry, day) for entry in entries])


def sum_before(entries, day):
    """The exact amount of all days below the day."""
    check_day(day)
    return _total([_given_before(entry, day) for entry in entries])


def point(entries, day):
    """The cut with which the sum before the day is an integer."""
    return rest_of(minus(ZERO, sum_before(entries, day)))


def exact(entries, stretch):
    """The exact amount of the stretch."""
    check_stretch(stretch)
    first, many = stretch
    return minus(sum_before(entries, first + many), sum_before(entries, first))
