import inspect
import random
import unittest
from fractions import Fraction
from itertools import combinations
from math import floor

from plain import draw_entries, draw_ratio, fraction, ratio
from ring import draw_told, moved, rewritten, Ring, with_integers
from samples import BIG, BIGGEST, LAST, NOT_CUTS, NOT_DAYS, NOT_STRETCHES, THIRDS, check_raises, state

from onecut import far as module
from onecut.entries import sum_before
from onecut.errors import BadCut, BadDay, BadStretch
from onecut.far import count_apart, count_unsure, first_apart, first_total, first_unsure
from onecut.ledger import Ledger
from onecut.left import left, numbers, told

DAYS = 30
# Names and kinds of the parameters.
PARAMETERS = {
    "first_unsure": ["ledger", "start", "*since=0"],
    "count_unsure": ["ledger", "start", "first", "many"],
    "first_apart": ["ledger", "one", "other", "*since=0"],
    "count_apart": ["ledger", "one", "other", "first", "many"],
    "first_total": ["ledger", "cut", "number"],
}


def sample():
    """The ledger of the document's example."""
    return Ledger.of([("entry", 0, LAST, THIRDS), ("statement", 0, 1, 0)])


def nothing_left():
    return Ledger.of([("entry", 0, LAST, THIRDS), ("statement", 0, 1, 2)])


def draw_far(drawn, many=3, under=10 ** 6, statements=3):
    """A ledger with entries of all lengths up to the last day, of either sign, and with possible statements."""
    items = []
    for _ in range(many):
        first = drawn.choice((0, drawn.randrange(30), drawn.randrange(10 ** drawn.randint(1, 30))))
        length = drawn.choice((LAST - first, drawn.randint(1, min(LAST - first, 10 ** drawn.randint(1, 30)))))
        amounts = tuple(draw_ratio(drawn, under, 10 ** 6) for _ in range(drawn.randint(1, 4)))
        items.append(("entry", first, length, amounts))
    ledger = Ledger.of(items)
    cut = draw_cut(drawn)
    for _ in range(statements):
        first = drawn.randrange(10 ** drawn.randint(1, 30))
        stretch = (first, drawn.randint(1, LAST - first))
        ledger.add(("statement", *stretch, told(ledger, cut, stretch)))
    return ledger


def draw_cut(drawn):
    under = drawn.choice((1, 2, 3, 12, drawn.randint(1, 10 ** 6), drawn.randint(1, 10 ** 50)))
    return ratio(Fraction(drawn.randrange(under), under))


def draw_low(drawn, ring):
    """Any cut, or the least one of a cell, a fraction."""
    return fraction(draw_cut(drawn)) if drawn.random() < 0.4 else drawn.choice(ring.lows)


def earliest(days, since):
    return min((day for day in days if day >= since), default=None)


def is_unsure(ledger, start, day):
    return day > start and len(numbers(ledger, (start, day - start))) == 2


def is_apart(ledger, one, other, day):
    return day > 0 and told(ledger, one, (0, day)) != told(ledger, other, (0, day))


class Interface(unittest.TestCase):
    def test_names_of_parameters(self):
        for name, parameters in PARAMETERS.items():
            function = getattr(module, name)
            found = [("*" if one.kind is one.KEYWORD_ONLY else "") + str(one)
                     for one in inspect.signature(function).parameters.values()]
            self.assertEqual(found, parameters)
            self.assertEqual(function.__module__, "onecut.far")

    def test_calls_by_name(self):
        ledger = sample()
        self.assertEqual(first_unsure(start=0, ledger=ledger), 2)
        self.assertEqual(first_unsure(since=3, start=0, ledger=ledger), 5)
        self.assertEqual(count_unsure(many=9, first=1, start=0, ledger=ledger), 3)
        self.assertEqual(first_apart(other=(1, 2), one=(0, 1), ledger=ledger), 2)
        self.assertEqual(first_apart(since=3, other=(1, 2), one=(0, 1), ledger=ledger), 5)
        self.assertEqual(count_apart(many=9, first=0, other=(1, 2), one=(0, 1), ledger=ledger), 3)
        self.assertEqual(first_total(number=4, cut=(1, 2), ledger=ledger), 11)

    def test_since_is_passed_by_name(self):
        for function, args in ((first_unsure, (sample(), 0, 3)), (first_apart, (sample(), (0, 1), (1, 2), 3))):
            with self.assertRaises(TypeError):
                function(*args)


class DayByDay(unittest.TestCase):
    """Each function against a visit to all days."""

    def draw(self, seed, times, others=0):
        drawn = random.Random(seed)
        for _ in range(times):
            entries = draw_entries(drawn, DAYS, most=6)
            statements = draw_told(drawn, entries, DAYS, drawn.randint(0, 2), others=others)
            # Past all entries, nothing changes any more.
            ring = Ring(entries + statements, DAYS + 5)
            ledger = Ledger.of(statements + entries)
            before = state(ledger)
            yield drawn, ledger, ring
            self.assertEqual(state(ledger), before)

    def test_unsure(self):
        seen = []
        for drawn, ledger, ring in self.draw(101, 120, others=0.1):
            for start in drawn.sample(range(ring.last + 1), 4):
                unsure = [day for day in range(start + 1, ring.last + 1)
                          if len(ring.numbers((start, day - start))) == 2]
                self.assertEqual(first_unsure(ledger, start), earliest(unsure, 0))
                for since in drawn.sample(range(ring.last + 1), 5):
                    self.assertEqual(first_unsure(ledger, start, since=since), earliest(unsure, since))
                for first, end in drawn.sample(list(combinations(range(ring.last + 2), 2)), 8):
                    expected = len([day for day in unsure if first <= day < end])
                    self.assertEqual(count_unsure(ledger, start, first, end - first), expected)
                seen.append(len(unsure))
        self.assertGreater(seen.count(0), 30)
        self.assertGreater(len(seen) - seen.count(0), 100)

    def test_what_is_so_past_all_entries_stays_so(self):
        seen = []
        for _, ledger, ring in self.draw(102, 100):
            last = is_unsure(ledger, 0, ring.last)
            self.assertEqual(count_unsure(ledger, 0, ring.last, LAST - ring.last), last * (LAST - ring.last))
            self.assertEqual(first_unsure(ledger, 0, since=LAST), LAST if last else None)
            self.assertIsNone(first_unsure(ledger, LAST))
            self.assertEqual(is_unsure(ledger, 0, LAST), last)
            apart = is_apart(ledger, (0, 1), (2, 3), ring.last)
            later = LAST - ring.last
            self.assertEqual(count_apart(ledger, (0, 1), (2, 3), ring.last, later), apart * later)
            self.assertEqual(first_apart(ledger, (0, 1), (2, 3), since=LAST), LAST if apart else None)
            seen.append((last, apart))
        self.assertGreater(len(set(seen)), 3)

    def test_apart(self):
        seen = []
        for drawn, ledger, ring in self.draw(103, 150):
            for _ in range(4):
                cuts = [draw_low(drawn, ring), draw_low(drawn, ring)]
                apart = [day for day in range(1, ring.last + 1)
                         if ring.told(cuts[0], (0, day)) != ring.told(cuts[1], (0, day))]
                one, other = map(ratio, cuts)
                for since in [0] + drawn.sample(range(ring.last + 1), 3):
                    expected = earliest(apart, since)
                    self.assertEqual(first_apart(ledger, one, other, since=since), expected)
                    self.assertEqual(first_apart(ledger, other, one, since=since), expected)
                for first, end in drawn.sample(list(combinations(range(ring.last + 2), 2)), 8):
                    expected = len([day for day in apart if first <= day < end])
                    self.assertEqual(count_apart(ledger, one, other, first, end - first), expected)
                    self.assertEqual(count_apart(ledger, other, one, first, end - first), expected)
                self.assertEqual(first_apart(ledger, one, other), first_apart(ledger, one, other, since=0))
                seen.append(len(apart))
        self.assertGreater(seen.count(0), 30)
        self.assertGreater(len(seen) - seen.count(0), 100)

    def test_total(self):
        seen = []
        for drawn, ledger, ring in self.draw(104, 200):
            for _ in range(3):
                cut = draw_low(drawn, ring)
                for number in [BIG, -BIG, -1, 0, 1] + [drawn.randint(-9, 40) for _ in range(5)]:
                    reaching = [day for day in range(ring.last + 1) if floor(ring.sums[day] + cut) >= number]
                    expected = reaching[0] if reaching else None
                    self.assertEqual(first_total(ledger, ratio(cut), number), expected)
                    seen.append(expected)
        self.assertGreater(seen.count(None), 30)
        self.assertGreater(len([day for day in seen if day]), 100)


class Far(unittest.TestCase):
    """Far days, against sums that are cut in two, against single days and against whole rounds."""

    def counts(self, drawn, ledger):
        """The two functions that count, with what says of one day whether it counts."""
        start = drawn.choice((0, drawn.randrange(10 ** drawn.randint(1, 30))))
        one, other = draw_cut(drawn), draw_cut(drawn)
        return (
            (lambda first, many: count_unsure(ledger, start, first, many), lambda day: is_unsure(ledger, start, day),
             lambda since: first_unsure(ledger, start, since=since)),
            (lambda first, many: count_apart(ledger, one, other, first, many),
             lambda day: is_apart(ledger, one, other, day), lambda since: first_apart(ledger, one, other, since=since)),
        )

    def test_counts_cut_in_two(self):
        drawn = random.Random(111)
        for _ in range(40):
            ledger = draw_far(drawn, many=drawn.randint(1, 6))
            for count, is_so, _ in self.counts(drawn, ledger):
                whole = count(0, LAST)
                at = drawn.choice((1, LAST - 1, drawn.randrange(1, 10 ** drawn.randint(1, 30))))
                self.assertEqual(count(0, at) + count(at, LAST - at), whole)
                first = drawn.randrange(10 ** drawn.randint(1, 30))
                many = drawn.randint(2, LAST - first)
                at = drawn.randrange(1, many)
                self.assertEqual(count(first, at) + count(first + at, many - at), count(first, many))
                self.assertEqual(count(first, 1), is_so(first))
                near = min(20, many)
                self.assertEqual(count(first, near), len([day for day in range(first, first + near) if is_so(day)]))

    def test_first_days(self):
        drawn = random.Random(112)
        found_some = 0
        for _ in range(120):
            ledger = draw_far(drawn, many=drawn.randint(1, 6))
            for count, is_so, first_from in self.counts(drawn, ledger):
                for since in (0, LAST, drawn.randrange(10 ** drawn.randint(1, 30))):
                    found = first_from(since)
                    end = LAST if found is None else found
                    if found is None:
                        self.assertFalse(is_so(LAST))
                    else:
                        found_some += found > since
                        self.assertGreaterEqual(found, since)
                        self.assertTrue(is_so(found))
                    if since < end:
                        self.assertEqual(count(since, end - since), 0)
        self.assertGreater(found_some, 100)

    def test_long_waits(self):
        # The sums rise by so little that the first such day is far away.
        for under in (10 ** 6, 10 ** 6 - 1, 999983):
            tiny = ("entry", 0, LAST, ((1, under), (0, 1), (1, under - 3)))
            ledger = Ledger.of([tiny])
            for part in (3, 10, 999):
                found = first_apart(ledger, (1, 10 ** 40), (1, part))
                self.assertTrue(is_apart(ledger, (1, 10 ** 40), (1, part), found))
                self.assertEqual(count_apart(ledger, (1, 10 ** 40), (1, part), 0, found), 0)
                self.assertGreater(found, under // 2)

    def test_whole_rounds(self):
        # After that many rounds, the sums have grown by an integer.
        drawn = random.Random(113)
        for _ in range(40):
            # The rounds stay within the days even with great unders.
            under, most = drawn.choice(((40, 4), (10 ** 6, 2)))
            amounts = tuple(draw_ratio(drawn, under, 10 ** 6) for _ in range(drawn.randint(1, most)))
            entry = ("entry", 0, LAST, amounts)
            ledger = Ledger.of([entry])
            rounds = len(amounts) * fraction(sum_before([entry], len(amounts))).denominator
            start = drawn.randrange(10 ** 20)
            one, other = draw_cut(drawn), draw_cut(drawn)
            for many in (1, drawn.randint(2, 10 ** 15)):
                first = start + 1 + drawn.randrange(10 ** 20)
                self.assertEqual(count_unsure(ledger, start, first, many * rounds),
                                 many * count_unsure(ledger, start, start + 1, rounds))
                self.assertEqual(count_apart(ledger, one, other, first, many * rounds),
                                 many * count_apart(ledger, one, other, 0, rounds))
                later = first + many * rounds
                found = first_unsure(ledger, start, since=first)
                self.assertEqual(first_unsure(ledger, start, since=later), found and found + many * rounds)
                found = first_unsure(ledger, start)
                self.assertEqual(first_unsure(ledger, start + many * rounds), found and found + many * rounds)
                found = first_apart(ledger, one, other, since=first)
                self.assertEqual(first_apart(ledger, one, other, since=later), found and found + many * rounds)

    def test_counts_of_all_residues(self):
        # One part of 7 each day: out of seven days in a row, those with their points between the cuts are apart.
        ledger = Ledger.of([("entry", 0, LAST, ((1, 7),))])
        for low, high in combinations(range(7), 2):
            one, other = ratio(Fraction(low, 7)), ratio(Fraction(high, 7))
            self.assertEqual(count_apart(ledger, one, other, 0, 7 * 10 ** 28), (high - low) * 10 ** 28)
        self.assertEqual(count_unsure(ledger, 5, 6, 7 * 10 ** 28), 6 * 10 ** 28)

    def test_totals(self):
        drawn = random.Random(114)
        some = none = 0
        for _ in range(150):
            ledger = draw_far(drawn, many=drawn.randint(1, 6), statements=0)
            cut = draw_cut(drawn)
            totals = [told(ledger, cut, (0, day)) for day in (LAST, drawn.randint(1, LAST))]
            greater = drawn.randint(1, 10 ** drawn.randint(1, 36))
            for number in (drawn.choice(totals), drawn.randint(-10 ** 9, 10 ** 9), greater):
                found = first_total(ledger, cut, number)
                if found is None:
                    none += 1
                    self.assertLess(max(totals + [0]), number)
                    continue
                some += found > 1
                if found == 0:
                    self.assertLessEqual(number, 0)
                    continue
                self.assertGreaterEqual(told(ledger, cut, (0, found)), number)
                for day in {found - 1, found - 2, found - 11, found - 12, found - 13, found // 2} | {
                        drawn.randrange(found) for _ in range(5)}:
                    if day > 0:
                        self.assertLess(told(ledger, cut, (0, day)), number)
                # No day before it in its round either.
                if found > 12:
                    self.assertTrue(all(told(ledger, cut, (0, found - back)) < number for back in range(1, 13)))
        self.assertGreater(some, 50)
        self.assertGreater(none, 20)

    def test_totals_that_rise_slowly(self):
        ledger = Ledger.of([("entry", 0, LAST, ((1, 12),))])
        self.assertEqual([first_total(ledger, (0, 1), number) for number in (1, 10 ** 20)], [12, 12 * 10 ** 20])
        ledger = Ledger.of([("entry", 0, LAST, ((1, 10 ** 6),))])
        self.assertEqual([first_total(ledger, cut, 10 ** 20) for cut in ((0, 1), (1, 2))],
                         [10 ** 26, 10 ** 26 - 10 ** 6 // 2])

    def test_totals_of_amounts_that_rise_and_fall(self):
        # Three up and two down, so that the second day of a round is the first to reach a number.
        ledger = Ledger.of([("entry", 0, LAST, ((-2, 1), (3, 1)))])
        self.assertEqual([first_total(ledger, (0, 1), number) for number in (-5, 0, 1, 2, 10 ** 29)],
                         [0, 0, 2, 4, 2 * 10 ** 29])
        ledger = Ledger.of([("entry", 0, LAST, ((3, 1), (-2, 1)))])
        self.assertEqual([first_total(ledger, (0, 1), number) for number in (0, 1, 3, 4, 5, 10 ** 29)],
                         [0, 1, 1, 3, 5, 2 * (10 ** 29 - 3) + 1])
        # All the rise is taken back before the second entry begins.
        ledger = Ledger.of([("entry", 0, 10 ** 20, ((1, 2),)), ("entry", 10 ** 20, 10 ** 20, ((-1, 1),)),
                            ("entry", 10 ** 29, 10 ** 29, ((1, 3),))])
        self.assertEqual([first_total(ledger, cut, 5 * 10 ** 19) for cut in ((0, 1), (1, 2))], [10 ** 20, 10 ** 20 - 1])
        self.assertEqual(first_total(ledger, (0, 1), 5 * 10 ** 19 + 1), 10 ** 29 + 3 * 10 ** 20 + 3)
        self.assertIsNone(first_total(ledger, (0, 1), 10 ** 30))

    def test_the_last_day(self):
        ledger = Ledger.of([("entry", LAST - 1, 1, ((1, 3),))])
        self.assertEqual([first_unsure(ledger, start) for start in (0, LAST - 1, LAST)], [LAST, LAST, None])
        self.assertEqual([first_unsure(ledger, 0, since=since) for since in (LAST - 1, LAST)], [LAST, LAST])
        self.assertEqual([count_unsure(ledger, 0, 0, LAST), count_unsure(ledger, LAST, 0, LAST)], [0, 0])
        self.assertEqual(first_apart(ledger, (0, 1), (2, 3)), LAST)
        self.assertEqual(first_apart(ledger, (0, 1), (1, 3)), None)
        self.assertEqual(count_apart(ledger, (0, 1), (2, 3), 0, LAST), 0)
        self.assertEqual([first_total(ledger, cut, 1) for cut in ((2, 3), (1, 3))], [LAST, None])


class ByHand(unittest.TestCase):
    def test_edges_of_windows(self):
        ledger = Ledger.of([("entry", 0, LAST, ((1, 4),))])
        # The points of the days 0, 1, 2, 3 are 0, 3/4, 1/2, 1/4. A cut tells 1 from the day's point on.
        self.assertEqual([first_apart(ledger, (0, 1), cut) for cut in ((1, 4), (1, 2), (3, 4), (7, 8), (1, 5))],
                         [3, 2, 1, 1, None])
        self.assertEqual([first_apart(ledger, (1, 4), cut) for cut in ((1, 4), (1, 2), (3, 4), (1, 3))],
                         [None, 2, 1, None])
        self.assertEqual(count_apart(ledger, (1, 2), (1, 2), 0, LAST), 0)
        self.assertEqual([count_apart(ledger, (0, 1), (1, 2), first, 1) for first in range(6)], [0, 0, 1, 1, 0, 0])

    def test_cuts_left_around_the_start(self):
        # Left are the cuts from 1/4 up to below 3/4.
        ledger = Ledger.of([("entry", 0, LAST, ((1, 4),)), ("statement", 1, 2, 1)])
        self.assertEqual(left(ledger), [((1, 4), (3, 4))])
        self.assertEqual([[day for day in range(9) if first_unsure(ledger, start, since=day) == day]
                          for start in range(4)], [[2, 6], [2, 6], [3, 4, 5, 7, 8], [6]])
        self.assertEqual([count_unsure(ledger, start, 0, 9) for start in range(4)], [2, 2, 5, 1])
        # Left are the others.
        ledger = Ledger.of([("entry", 0, LAST, ((1, 4),)), ("statement", 1, 2, 0)])
        self.assertEqual([count_unsure(ledger, start, start + 1, 4) for start in range(4)], [3, 1, 1, 1])

    def test_integers_are_sure(self):
        for entries in ([], [("entry", 0, LAST, ((5, 1), (-7, 1)))]):
            ledger = Ledger.of(entries)
            self.assertIsNone(first_unsure(ledger, 3))
            self.assertIsNone(first_apart(ledger, (0, 1), (99, 100)))
            self.assertEqual(count_unsure(ledger, 3, 0, LAST), 0)
            self.assertEqual(count_apart(ledger, (0, 1), (99, 100), 0, LAST), 0)
        self.assertEqual([first_total(Ledger(), (99, 100), number) for number in (-BIGGEST, 0, 1, BIGGEST)],
                         [0, 0, None, None])

    def test_no_cut_left(self):
        ledger = nothing_left()
        self.assertEqual([first_unsure(ledger, 0), first_unsure(ledger, 5, since=LAST)], [None, None])
        self.assertEqual(count_unsure(ledger, 0, 0, LAST), 0)
        # Cuts and totals are told whatever the statements.
        self.assertEqual([first_apart(ledger, (0, 1), (1, 2)), count_apart(ledger, (0, 1), (1, 2), 0, 9)], [2, 3])
        self.assertEqual(first_total(ledger, (1, 2), 4), 11)

    def test_one_cell_left(self):
        ledger = Ledger.of([("entry", 0, LAST, THIRDS), ("statement", 0, 1, 0), ("statement", 1, 1, 0)])
        self.assertEqual([first_unsure(ledger, 0), count_unsure(ledger, 0, 0, LAST)], [None, 0])


class AmountsAlone(unittest.TestCase):
    """Only the amounts count, and not how they are written or where they begin."""

    def answers(self, ledger, days=0):
        """What the functions say of days, counted from a later one."""
        found = [first_unsure(ledger, 3 + days), first_unsure(ledger, days, since=9 + days),
                 first_apart(ledger, (1, 5), (1, 2)), first_apart(ledger, (1, 5), (1, 2), since=8 + days)]
        found = [day if day is None else day - days for day in found]
        return found + [count_unsure(ledger, 2 + days, days, 30), count_apart(ledger, (4, 5), (1, 9), days, 30)]

    def draw(self, seed, times):
        drawn = random.Random(seed)
        for _ in range(times):
            entries = draw_entries(drawn, DAYS, most=2) + [("entry", 2, 9, ((1, 3), (2, 7)))]
            yield drawn, entries, draw_told(drawn, entries, DAYS, drawn.randint(0, 2), others=0)

    def test_written_otherwise(self):
        for drawn, entries, statements in self.draw(121, 100):
            ledger = Ledger.of(entries + statements)
            twin = Ledger.of(rewritten(drawn, entries, DAYS) + statements)
            self.assertEqual(self.answers(twin), self.answers(ledger))
            self.assertEqual([first_total(twin, (1, 2), number) for number in range(9)],
                             [first_total(ledger, (1, 2), number) for number in range(9)])

    def test_integers_added(self):
        for drawn, entries, statements in self.draw(122, 60):
            number = drawn.choice((-5, -1, 1, 2))
            items = entries + statements
            self.assertEqual(self.answers(Ledger.of(with_integers(items, number))), self.answers(Ledger.of(items)))

    def test_later_days(self):
        for drawn, entries, statements in self.draw(123, 60):
            days = drawn.choice((1, 12, 10 ** 29, LAST - DAYS - 1))
            items = entries + statements
            self.assertEqual(self.answers(Ledger.of(moved(items, days)), days), self.answers(Ledger.of(items)))


class Errors(unittest.TestCase):
    def check(self, kind, function, *args, **more):
        for ledger in (sample(), nothing_left(), Ledger()):
            before = state(ledger)
            check_raises(self, kind, {}, function, ledger, *args, **more)
            self.assertEqual(state(ledger), before)

    def test_days(self):
        for day in NOT_DAYS:
            self.check(BadDay, first_unsure, day)
            self.check(BadDay, first_unsure, 0, since=day)
            self.check(BadDay, first_unsure, day, since=day)
            self.check(BadDay, count_unsure, day, 0, 1)
            self.check(BadDay, first_apart, (0, 1), (1, 2), since=day)
            self.check(BadDay, first_apart, (1, 2), (1, 2), since=day)

    def test_cuts(self):
        for cut in NOT_CUTS:
            self.check(BadCut, first_apart, cut, (0, 1))
            self.check(BadCut, first_apart, (0, 1), cut)
            self.check(BadCut, count_apart, cut, (0, 1), 0, 1)
            self.check(BadCut, count_apart, (0, 1), cut, 0, 1)
            self.check(BadCut, first_total, cut, 1)

    def test_stretches(self):
        for thing in NOT_STRETCHES:
            if isinstance(thing, tuple) and len(thing) == 2:
                self.check(BadStretch, count_unsure, 0, *thing)
                self.check(BadStretch, count_unsure, LAST, *thing)
                self.check(BadStretch, count_apart, (0, 1), (1, 2), *thing)
                self.check(BadStretch, count_apart, (0, 1), (0, 1), *thing)
        for thing in NOT_DAYS:
            self.check(BadStretch, count_unsure, 0, thing, 1)
            self.check(BadStretch, count_unsure, 0, 1, thing)
            self.check(BadStretch, count_apart, (0, 1), (1, 2), thing, 1)
            self.check(BadStretch, count_apart, (0, 1), (1, 2), thing, thing)

    def test_order(self):
        self.check(BadDay, count_unsure, -1, -1, 0)
        self.check(BadDay, count_unsure, None, 0, LAST + 1)
        self.check(BadCut, first_apart, (0, 1), (1, 1), since=-1)
        self.check(BadCut, first_apart, (1, 1), (0, 1), since=None)
        self.check(BadCut, count_apart, (1, 1), None, -1, 0)
        self.check(BadCut, count_apart, (0, 1), None, 0, 0)

    def test_edges_that_are_no_errors(self):
        ledger = sample()
        self.assertEqual(first_unsure(ledger, LAST, since=LAST), None)
        self.assertEqual(first_unsure(ledger, LAST - 1, since=0), None)
        self.assertEqual(count_unsure(ledger, LAST, LAST - 1, 1), 0)
        self.assertEqual(count_unsure(ledger, 0, LAST - 1, 1), is_unsure(ledger, 0, LAST - 1))
        self.assertEqual(count_apart(ledger, (0, 1), (BIGGEST - 1, BIGGEST), 0, LAST), LAST - (LAST + 2) // 3)


if __name__ == "__main__":
    unittest.main()
