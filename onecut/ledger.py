"""Ledgers: items, that is entries and statements, under numbers."""

from onecut.errors import Full, NoItem, OtherKind
from onecut.kinds import check_item
from onecut.ratios import is_int


class Ledger:
    """Items under the numbers 0, 1, 2 and so on; a number is never used again."""

    MOST_ENTRIES = 6
    MOST_STATEMENTS = 24

    def __init__(self):
        # New numbers are greater than all others and come last, so the numbers are always ascending.
        self._items = {}
        self._next_number = 0

    @classmethod
    def of(cls, items):
        """A ledger with the items of a list, numbered from 0 on."""
        ledger = cls()
        for item in items:
            ledger.add(item)
        return ledger

    @property
    def next_number(self):
        """The number that the next item gets."""
        return self._next_number

    def walk(self):
        """Goes through the tuples (number, item), in ascending order."""
        for number, item in self._items.items():
            yield number, item

    def _of_kind(self, kind):
        return [item for item in self._items.values() if item[0] == kind]

    def _check_number(self, number):
        # Things that are no integers may be no keys, or equal to one, as True is to 1.
        if not is_int(number) or number not in self._items:
            raise NoItem(number)

    def add(self, item):
        """Adds the item and returns its number."""
        check_item(item)
        kind = item[0]
        most = self.MOST_ENTRIES if kind == "entry" else self.MOST_STATEMENTS
        if len(self._of_kind(kind)) >= most:
            raise Full(most)
        number = self._next_number
        self._items[number] = item
        self._next_number = number + 1
        return number

    def drop(self, number):
        """Takes the item with this number away and returns it."""
        self._check_number(number)
        item = self._items[number]
        del self._items[number]
        return item

    def change(self, number, item):
        """Puts the item in the place of one of the same kind, which is returned."""
        self._check_number(number)
        check_item(item)
        before = self._items[number]
        if before[0] != item[0]:
            raise OtherKind("an item is changed only to one of the same kind")
        self._items[number] = item
        return before

    def numbered(self):
        """The list of the tuples (number, item), in ascending order."""
        return list(self._items.items())

    def entries(self):
        """The entries, in the order of their numbers."""
        return self._of_kind("entry")

    def statements(self):
        """The statements, in the order of their numbers."""
        return self._of_kind("statement")

    def copy(self):
        """A ledger with the same items under the same numbers and with the same next number."""
        twin = Ledger()
        twin._items = dict(self._items)
        twin._next_number = self._next_number
        return twin

    def __eq__(self, other):
        # Items of two kinds differ in their first part already, so they can all be sorted together.
        return isinstance(other, Ledger) and sorted(self._items.values()) == sorted(other._items.values())

    def __len__(self):
        return len(self._items)

    def __repr__(self):
        return f"Ledger({len(self.entries())}, {len(self.statements())})"
