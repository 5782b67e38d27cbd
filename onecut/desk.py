"""A desk: a ledger that is spoken to in rows of words, and that answers in words."""

from onecut.clashes import clash, repair
from onecut.entries import exact
from onecut.errors import BadRow, NothingDone
from onecut.ledger import Ledger
from onecut.left import average, left, numbers
from onecut.texts import item_from, item_text, ratio_text, read_natural, word_at, wrong_in_item, wrong_in_stretch


def _listed(words, between=" "):
    """The words of a list, in one string."""
    return between.join(words) if words else "none"


def _items(ledger):
    return _listed([f"{number}:{item_text(item)}" for number, item in ledger.numbered()], " ; ")


def _left(ledger):
    return _listed([f"{ratio_text(low)}..{ratio_text(high)}" for low, high in left(ledger)])


def _clash(ledger):
    return _listed([str(number) for number in clash(ledger) or ()])


def _repair(ledger):
    dropped, cut = repair(ledger)
    return _listed([ratio_text(cut)] + [str(number) for number in dropped])


def _exact(ledger, stretch):
    return ratio_text(exact(ledger.entries(), stretch))


def _possible(ledger, stretch):
    return _listed([str(number) for number in numbers(ledger, stretch)])


def _average(ledger, stretch):
    found = average(ledger, stretch)
    return "none" if found is None else ratio_text(found)


# These answers change nothing, so nothing has to be kept for undo.
OF_LEDGER = {"items": _items, "left": _left, "clash": _clash, "repair": _repair}
OF_STRETCH = {"exact": _exact, "possible": _possible, "average": _average}


def _wrong_word(words):
    """The index of the first word with which no row continues, or the number of words if more are missing; or None."""
    name = words[0]
    if name == "add":
        return wrong_in_item(words, 1)
    if name in ("drop", "change") and read_natural(word_at(words, 1)) is None:
        return 1
    if name == "change":
        return wrong_in_item(words, 2)
    end = 1
    if name in OF_STRETCH:
        wrong = wrong_in_stretch(words, 1)
        if wrong is not None:
            return wrong
        end = 3
    elif name == "drop":
        end = 2
    elif name != "undo" and name not in OF_LEDGER:
        return 0
    return end if len(words) > end else None


def _do(ledger, words):
    """Adds, drops or changes an item, and returns the answer."""
    if words[0] == "add":
        return str(ledger.add(item_from(words, 1)))
    number = int(words[1])
    if words[0] == "drop":
        ledger.drop(number)
    else:
        ledger.change(number, item_from(words, 2))
    return "ok"


class Desk:
    """A ledger, with what it was before each deed that may be taken back."""

    def __init__(self):
        self._ledger = Ledger()
        self._before = []

    def say(self, row):
        """The answer to a row."""
        if not isinstance(row, str):
            raise BadRow(0)
        words = row.split(" ")
        wrong = _wrong_word(words)
        if wrong is not None:
            raise BadRow(wrong)
        if words[0] in OF_LEDGER:
            answer = OF_LEDGER[words[0]]
            return answer(self._ledger)
        if words[0] in OF_STRETCH:
            answer = OF_STRETCH[words[0]]
            return answer(self._ledger, (int(words[1]), int(words[2])))
        if words[0] == "undo":
            return self._undo()
        before = self._ledger.copy()
        said = _do(self._ledger, words)
        self._before.append(before)
        return said

    def _undo(self):
        """Takes the last deed back."""
        if not self._before:
            raise NothingDone("there is nothing to take back")
        self._ledger = self._before.pop()
        return "ok"
