"""A plain reckoning over all cells of the ring and all days, and amounts that are written in other ways."""

from fractions import Fraction
from itertools import combinations
from math import floor

from plain import day_sums, draw_entries, draw_stretch, ratio

from onecut.ledger import Ledger


class Ring:
    """The sums before all days up to a last one, and the cells between the points of these days."""

    def __init__(self, items, last):
        self.last = last
        self.entries = [item for item in items if item[0] == "entry"]
        self.statements = [item for item in items if item[0] == "statement"]
        self.sums = day_sums(self.entries, last)
        # The least cut of each cell stands for all others.
        self.lows = sorted({-total % 1 for total in self.sums})
        self.highs = self.lows[1:] + [Fraction(1)]
        self.cells = frozenset(range(len(self.lows)))
        self.left = self.telling_all(self.statements)

    def told(self, cut, stretch):
        first, many = stretch
        return floor(self.sums[first + many] + cut) - floor(self.sums[first] + cut)

    def telling(self, statement):
        """The cells that tell the statement as stated."""
        _, first, many, number = statement
        return frozenset(cell for cell in self.cells if self.told(self.lows[cell], (first, many)) == number)

    def telling_all(self, statements):
        return self.cells.intersection(*[self.telling(statement) for statement in statements])

    def spans(self, cells):
        """The set of cuts of these cells."""
        found = []
        for cell in sorted(cells):
            if found and found[-1][1] == self.lows[cell]:
                found[-1][1] = self.highs[cell]
            else:
                found.append([self.lows[cell], self.highs[cell]])
        return [(ratio(low), ratio(high)) for low, high in found]

    def least(self, cells):
        return ratio(self.lows[min(cells)])

    def numbers(self, stretch, cells=None):
        cells = self.left if cells is None else cells
        return sorted({self.told(self.lows[cell], stretch) for cell in cells})

    def stretches(self):
        return [(first, end - first) for first, end in combinations(range(self.last + 1), 2)]

    def all_sure(self, cells):
        return all(len(self.numbers(stretch, cells)) == 1 for stretch in self.stretches())


def fewest(lots, whole, wanted):
    """The least number of sets of cells whose intersection with the whole is the wanted one."""
    for many in range(len(lots) + 1):
        if any(whole.intersection(*some) == wanted for some in combinations(lots, many)):
            return many
    return None


def draw_statement(drawn, ring, cut):
    stretch = draw_stretch(drawn, ring.last)
    return ("statement", *stretch, ring.told(cut, stretch))


def draw_told(drawn, entries, last, many, others=0.2, wrong=0.02):
    """Statements as one cut tells them, some of them as another one does, and a few that no cut tells."""
    ring = Ring(entries, last)
    cut = drawn.choice(ring.lows)
    statements = []
    for _ in range(many):
        teller = drawn.choice(ring.lows) if drawn.random() < others else cut
        kind, first, many, number = draw_statement(drawn, ring, teller)
        statements.append((kind, first, many, number + drawn.choice((-1, 1, 5)) if drawn.random() < wrong else number))
    return statements


def draw_ledger(drawn, last, most=7, **more):
    """A ledger whose items have come and gone, so that their numbers are none in a row."""
    items = draw_entries(drawn, last)
    items += draw_told(drawn, items, last, drawn.randint(0, most), **more)
    drawn.shuffle(items)
    ledger = Ledger()
    for item in items:
        if drawn.random() < 0.3:
            ledger.drop(ledger.add(("statement", 0, 1, 0)))
        ledger.add(item)
    return ledger


def items_of(ledger):
    return [item for _, item in ledger.numbered()]


def ring_of(ledger, last):
    return Ring(items_of(ledger), last)


def by_number(ledger):
    """A dict: the statements by their numbers."""
    return {number: item for number, item in ledger.numbered() if item[0] == "statement"}


def minus_one(pair, other):
    return ratio(Fraction(*pair) - Fraction(*other))


def in_two(entry, at):
    """Two entries for one: its first days, and those from there on."""
    _, first, many, amounts = entry
    turn = at % len(amounts)
    return [("entry", first, at, amounts), ("entry", first + at, many - at, amounts[turn:] + amounts[:turn])]


def twice(entry):
    """The pattern of the entry twice."""
    _, first, many, amounts = entry
    return [("entry", first, many, amounts + amounts)]


def split(entry, part):
    """The amounts split between two entries, of which the first one always has the part."""
    _, first, many, amounts = entry
    return [("entry", first, many, (part,)), ("entry", first, many, tuple(minus_one(one, part) for one in amounts))]


def cancelling(entry):
    """Two entries that give nothing together."""
    kind, first, many, amounts = entry
    return [entry, (kind, first, many, tuple((-top, under) for top, under in amounts))]


def rewritten(drawn, entries, last):
    """The same amounts, written by other entries, at most six."""
    entries = list(entries)
    drawn.shuffle(entries)
    out = []
    room = 6 - len(entries)
    for entry in entries:
        way = drawn.randrange(4)
        if way == 0 and room and entry[2] > 1:
            out += in_two(entry, drawn.randrange(1, entry[2]))
            room -= 1
        elif way == 1 and room and max(under for _, under in entry[3]) < 10 ** 5:
            # The parts of a split entry still have unders up to 10 ** 6.
            out += split(entry, ratio(Fraction(drawn.randint(-5, 5), drawn.randint(1, 7))))
            room -= 1
        elif way == 2 and len(entry[3]) < 3:
            out += twice(entry)
        else:
            out.append(entry)
    if room > 1:
        out += cancelling(("entry", *draw_stretch(drawn, last), ((1, 7), (2, 3))))
    drawn.shuffle(out)
    return out


def moved(items, days):
    return [(kind, first + days, many, last) for kind, first, many, last in items]


def with_integers(items, number):
    """The items with the integer added to each amount of the first entry, and the statements told so."""
    changed = next(item for item in items if item[0] == "entry")
    _, first, many, amounts = changed
    more = ("entry", first, many, tuple(ratio(Fraction(*one) + number) for one in amounts))
    found = []
    for item in items:
        if item[0] == "statement":
            days = max(0, min(item[1] + item[2], first + many) - max(item[1], first))
            item = (*item[:3], item[3] + number * days)
        found.append(more if item is changed else item)
    return found
