"""The errors that the package raises."""


def _own_copy(thing):
    """A copy that shares no list, so that later changes to an argument do not reach the error."""
    if isinstance(thing, list):
        return [_own_copy(part) for part in thing]
    if isinstance(thing, tuple):
        return tuple([_own_copy(part) for part in thing])
    return thing


class CutError(ValueError):
    """The base of the errors about arguments of a wrong form."""


class BadItem(CutError):
    """Not an item; part is the index of the first part that is wrong."""

    def __init__(self, part):
        CutError.__init__(self, f"no item: part {part} is wrong")
        self.part = part


class OtherKind(CutError):
    """An entry in the place of a statement, or a statement in the place of an entry."""


class BadDay(CutError):
    """Not a day."""


class BadStretch(CutError):
    """Not a stretch."""


class BadCut(CutError):
    """Not a cut."""


class BadText(CutError):
    """Not the text of an item; place is the index of the first wrong word."""

    def __init__(self, place):
        CutError.__init__(self, f"no text of an item: word {place} is wrong")
        self.place = place


class BadRow(CutError):
    """Not a row of the desk; place is the index of the first wrong word."""

    def __init__(self, place):
        CutError.__init__(self, f"no row: word {place} is wrong")
        self.place = place


class NoItem(KeyError):
    """Not the number of an item that is present; number is what was passed."""

    def __init__(self, number):
        # The argument may be any thing, so the message does not show it.
        KeyError.__init__(self, "no item has this number")
        self.number = _own_copy(number)


class Full(OverflowError):
    """The ledger has as many items of this kind as it may have; most says how many."""

    def __init__(self, most):
        OverflowError.__init__(self, f"there are {most} of them already")
        self.most = most


class NothingLeft(RuntimeError):
    """No cut is left."""


class Unlike(RuntimeError):
    """The amounts of two ledgers differ; day is the first day on which they do."""

    def __init__(self, day):
        RuntimeError.__init__(self, f"the amounts differ on day {day}")
        self.day = day


class NothingDone(IndexError):
    """There is nothing to take back."""
