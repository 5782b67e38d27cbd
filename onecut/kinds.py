"""Which things are days, stretches, cuts and items."""

from onecut.errors import BadCut, BadDay, BadItem, BadStretch
from onecut.ratios import is_int, is_ratio

# No stretch goes beyond this day, and no greater day is passed.
LAST_DAY = 10 ** 30
MOST_AMOUNTS = 4
# The bound of the tops, in both directions, and of the unders.
AMOUNT_BOUND = 10 ** 6


def is_day(thing):
    """Whether any thing is a day."""
    return is_int(thing) and 0 <= thing <= LAST_DAY


def is_cut(thing):
    """Whether any thing is a cut."""
    return is_ratio(thing) and 0 <= thing[0] < thing[1]


def _is_many(thing, first):
    """Whether any thing says how many days a stretch from the day first on has."""
    return is_int(thing) and 1 <= thing <= LAST_DAY - first


def is_stretch(thing):
    """Whether any thing is a stretch."""
    if not (isinstance(thing, tuple) and len(thing) == 2):
        return False
    first, many = thing
    return is_day(first) and _is_many(many, first)


def is_amount(thing):
    """Whether any thing is a ratio that an entry may give."""
    return is_ratio(thing) and -AMOUNT_BOUND <= thing[0] <= AMOUNT_BOUND and thing[1] <= AMOUNT_BOUND


def _is_amounts(thing):
    if not (isinstance(thing, tuple) and 1 <= len(thing) <= MOST_AMOUNTS):
        return False
    return all([is_amount(part) for part in thing])


def wrong_part(thing):
    """The index of the first part with which any thing is no item; None for an item."""
    if not (isinstance(thing, tuple) and len(thing) == 4):
        return 0
    kind, first, many, last = thing
    if kind not in ("entry", "statement"):
        return 0
    # The day LAST_DAY passes as a first, although no many can follow: then many is the wrong part.
    if not is_day(first):
        return 1
    if not _is_many(many, first):
        return 2
    right = _is_amounts(last) if kind == "entry" else is_int(last)
    return None if right else 3


def check_day(thing):
    """Raises BadDay for any thing that is no day."""
    if not is_day(thing):
        raise BadDay("a day is an integer from 0 to 10 ** 30")


def check_stretch(thing):
    """Raises BadStretch for any thing that is no stretch."""
    if not is_stretch(thing):
        raise BadStretch("a stretch is a tuple (first, many) of days below 10 ** 30")


def check_cut(thing):
    """Raises BadCut for any thing that is no cut."""
    if not is_cut(thing):
        raise BadCut("a cut is a ratio from 0 up to below 1")


def check_item(thing):
    """Raises BadItem for any thing that is no item."""
    part = wrong_part(thing)
    if part is not None:
        raise BadItem(part)
