import inspect
import random
import unittest
from itertools import combinations

from plain import day_amount, draw_entries, draw_entry, draw_ratio, fraction
from ring import (by_number, cancelling, draw_told, in_two, items_of, moved, rewritten, Ring, split, twice,
                  with_integers)
from samples import BIG, LAST, THIRDS, check_raises, state

from onecut import compare as module
from onecut.compare import first_unlike, joined, joint_clash, parting
from onecut.entries import exact
from onecut.errors import Unlike
from onecut.kinds import wrong_part
from onecut.ledger import Ledger
from onecut.left import left, numbers
from onecut.spans import both

DAYS = 9
FUNCTIONS = (first_unlike, joined, joint_clash, parting)


def draw_pair(drawn, last, others=0.4, most=6):
    """Two ledgers with the same amounts, written in two ways, and with statements of their own."""
    entries = draw_entries(drawn, last, most=3)
    if drawn.random() < 0.7:
        amounts = tuple((1, drawn.randint(3, 9)) for _ in range(drawn.randint(1, 4)))
        entries = entries[1:] + [("entry", 0, last, amounts)]
    one, other = [draw_told(drawn, entries, last, drawn.randint(0, most), others) for _ in range(2)]
    if drawn.random() < 0.3:
        other = drawn.sample(one, len(one))
    pair = []
    for items in (entries + one, rewritten(drawn, entries, last) + other):
        drawn.shuffle(items)
        pair.append(Ledger.of(items))
    return pair


def entries_of(items):
    return [item for item in items if item[0] == "entry"]


class Interface(unittest.TestCase):
    def test_names_of_parameters(self):
        for function in FUNCTIONS:
            self.assertEqual(list(inspect.signature(function).parameters), ["one", "other"])
            self.assertEqual(function.__module__, "onecut.compare")
            self.assertIs(getattr(module, function.__name__), function)

    def test_calls_by_name(self):
        one = Ledger.of([("entry", 0, 3, THIRDS), ("statement", 0, 1, 0)])
        other = Ledger.of([("entry", 0, 3, THIRDS), ("statement", 1, 1, 0), ("statement", 2, 1, 0)])
        self.assertIsNone(first_unlike(other=other, one=one))
        self.assertEqual(joined(other=other, one=one), [])
        self.assertEqual(joint_clash(other=other, one=one), ((1,), (1, 2)))
        self.assertEqual(parting(other=other, one=one)[1], 0)
        self.assertEqual(joint_clash(other=one, one=other), ((1, 2), (1,)))

    def test_lists_are_new(self):
        one = Ledger.of([("entry", 0, 3, THIRDS), ("statement", 0, 1, 0)])
        joined(one, one).clear()
        self.assertEqual(joined(one, one), [((0, 1), (2, 3))])
        self.assertEqual(left(one), [((0, 1), (2, 3))])


class FirstUnlike(unittest.TestCase):
    def check(self, one, other, day):
        pair = (Ledger.of(one), Ledger.of(other))
        before = [state(ledger) for ledger in pair]
        for first, second in (pair, pair[::-1]):
            self.assertEqual(first_unlike(first, second), day)
            for function in FUNCTIONS[1:]:
                if day is None:
                    function(first, second)
                else:
                    check_raises(self, Unlike, {"day": day}, function, first, second)
        self.assertEqual([state(ledger) for ledger in pair], before)

    def test_day_by_day(self):
        drawn = random.Random(81)
        found = []
        for _ in range(400):
            one = draw_entries(drawn, 20, under=2)
            other = one + draw_entries(drawn, 20, most=2) if drawn.random() < 0.5 else draw_entries(drawn, 20, under=2)
            unlike = [day for day in range(20) if day_amount(one, day) != day_amount(other, day)]
            found.append(unlike[0] if unlike else None)
            self.check(one, other, found[-1])
        self.assertGreater(found.count(None), 20)
        self.assertGreater(len([day for day in found if day]), 50)

    def test_far_days(self):
        # All is moved to later days, and both begin with what is alike.
        drawn = random.Random(82)
        for _ in range(150):
            one = draw_entries(drawn, 20, under=2, most=3)
            other = one[1:] + draw_entries(drawn, 20, most=1)
            unlike = [day for day in range(20) if day_amount(one, day) != day_amount(other, day)]
            days = drawn.choice((1, 10 ** 18, 10 ** 29 + 7, LAST - 20))
            before = [("entry", 0, days, ((1, 3), (1, 5), (-1, 7)))]
            self.check(before + moved(one, days), before + moved(other, days), unlike[0] + days if unlike else None)

    def test_written_otherwise(self):
        drawn = random.Random(83)
        for _ in range(200):
            entries = draw_entries(drawn, 20, most=4)
            self.check(entries, rewritten(drawn, entries, 20), None)

    def test_each_way_of_writing(self):
        drawn = random.Random(84)
        for _ in range(150):
            days = drawn.choice((0, 10 ** 20, LAST - 10 ** 18 - 20))
            first = drawn.randrange(20)
            amounts = tuple(draw_ratio(drawn, 9) for _ in range(drawn.randint(1, 4)))
            entry = ("entry", first + days, drawn.choice((2, 30, 10 ** 18)), amounts)
            at = drawn.choice((1, entry[2] - 1, drawn.randrange(1, entry[2])))
            self.check([entry], in_two(entry, at), None)
            self.check([entry], split(entry, (2, 7)), None)
            self.check([], cancelling(entry), None)
            if len(amounts) < 3:
                self.check([entry], twice(entry), None)
            # What is cut in two and then goes on one day less differs on just this day.
            parts = in_two(entry, at)
            last = entry[1] + entry[2] - 1
            if amounts[(entry[2] - 1) % len(amounts)] != (0, 1):
                shorter = parts[1][:2] + (parts[1][2] - 1,) + parts[1][3:]
                self.check([entry], parts[:1] + ([shorter] if shorter[2] else []), last)

    def test_one_far_day(self):
        whole = ("entry", 0, LAST, ((1, 3), (1, 4), (1, 5), (1, 6)))
        for day in (0, 1, 11, 12, 13, 10 ** 29, 123456789012345678901234567890, LAST - 1):
            self.check([whole], [whole, ("entry", day, 1, ((1, 10 ** 6),))], day)
            self.check([whole, ("entry", day, 1, ((0, 1),))], [whole], None)

    def test_patterns_that_part_late(self):
        # Three and four amounts are alike on the first days only.
        three = ("entry", 0, LAST, ((1, 1), (2, 1), (3, 1)))
        four = ("entry", 0, LAST, ((1, 1), (2, 1), (3, 1), (1, 1)))
        self.check([three], [four], 4)
        other = [four, ("entry", 4, 1, ((1, 1),)), ("entry", 5, 1, ((1, 1),)), ("entry", 6, 1, ((-2, 1),)),
                 ("entry", 8, 1, ((2, 1),))]
        self.assertEqual(first_unlike(Ledger.of([three]), Ledger.of(other)), 7)
        # 0, 0, 0, 1 and 0, 0, 1 together give something else only on the twelfth day.
        one = [("entry", 0, LAST, ((0, 1), (0, 1), (0, 1), (1, 1))), ("entry", 0, LAST, ((0, 1), (0, 1), (1, 1)))]
        self.check(one, one + [("entry", 11, 10 ** 20, ((1, 1),) + ((0, 1),) * 3)], 11)
        self.check(one, [("entry", 0, 11, one[0][3]), one[1], ("entry", 12, LAST - 12, one[0][3])], 11)

    def test_statements_do_not_matter(self):
        entry = ("entry", 0, 3, THIRDS)
        self.check([entry, ("statement", 0, 1, 7)], [entry], None)
        self.check([("statement", 0, 1, 0)], [entry], 0)
        self.check([], [], None)


class CellByCell(unittest.TestCase):
    """The functions against a plain reckoning over all cells."""

    def draw(self, seed, times, **more):
        drawn = random.Random(seed)
        for _ in range(times):
            one, other = draw_pair(drawn, DAYS, **more)
            before = [state(one), state(other)]
            yield one, other, Ring(items_of(one), DAYS), Ring(items_of(other), DAYS)
            self.assertEqual([state(one), state(other)], before)

    def test_joined(self):
        sizes = []
        for one, other, ring, other_ring in self.draw(85, 300):
            found = joined(one, other)
            self.assertEqual(found, ring.spans(ring.left & other_ring.left))
            self.assertEqual(found, both(left(one), left(other)))
            self.assertEqual(joined(other, one), found)
            sizes.append(len(found))
        self.assertTrue(all(sizes.count(size) > 5 for size in (0, 1)), sizes)

    def test_joint_clash(self):
        sizes = []
        for one, other, ring, other_ring in self.draw(86, 500, most=8):
            found = joint_clash(one, other)
            if ring.left & other_ring.left:
                self.assertIsNone(found)
                sizes.append((0, 0))
                continue
            self.assertIsInstance(found, tuple)
            self.assertEqual([type(part) for part in found], [tuple, tuple])
            lots = []
            for numbers_found, ledger in zip(found, (one, other)):
                self.assertEqual(list(numbers_found), sorted(set(numbers_found)))
                self.assertLessEqual(set(numbers_found), set(by_number(ledger)))
                lots += [by_number(ledger)[number] for number in numbers_found]
            self.assertFalse(ring.telling_all(lots))
            telling = [ring.telling(statement) for statement in one.statements() + other.statements()]
            for some in combinations(telling, len(lots) - 1):
                self.assertTrue(ring.cells.intersection(*some))
            self.assertEqual(joint_clash(one.copy(), other.copy()), found)
            sizes.append(tuple(map(len, found)))
        for size in ((0, 0), (1, 1), (1, 0), (0, 1), (0, 2), (2, 0), (1, 2), (2, 1)):
            self.assertGreater(sizes.count(size), 1, size)

    def test_parting(self):
        found = []
        for one, other, ring, other_ring in self.draw(87, 400, others=0.1):
            part = parting(one, other)
            found.append((part and part[1], bool(left(one)), bool(left(other))))
            if ring.left == other_ring.left:
                self.assertIsNone(part)
                continue
            self.assertEqual([type(part), len(part), type(part[1])], [tuple, 2, int])
            statement, which = part
            self.assertIsNone(wrong_part(statement))
            kind, first, many, number = statement
            self.assertEqual(kind, "statement")
            possible = [number in numbers(ledger, (first, many)) for ledger in (one, other)]
            self.assertEqual(possible, [which == 0, which == 1])
            if first + many <= DAYS:
                telling = ring.telling(statement)
                self.assertEqual([bool(telling & cells.left) for cells in (ring, other_ring)], possible)
            self.assertEqual(parting(one.copy(), other.copy()), part)
        for seen in ((None, True, True), (0, True, True), (1, True, True), (0, True, False), (1, False, True),
                     (None, False, False)):
            self.assertGreater(found.count(seen), 2, seen)

    def test_parting_against_all_statements(self):
        # The same cuts are left exactly if no statement is possible in only one of them.
        alike = []
        for one, other, ring, _ in self.draw(88, 150, others=0.1):
            parted = any(numbers(one, stretch) != numbers(other, stretch) for stretch in ring.stretches())
            self.assertEqual(parting(one, other) is not None, parted)
            alike.append(parted)
        self.assertGreater(alike.count(True), 9)
        self.assertGreater(alike.count(False), 9)


class ByHand(unittest.TestCase):
    def test_48_statements(self):
        entry = ("entry", 0, 48, ((1, 48),))
        one = Ledger.of([entry] + [("statement", day, 1, 0) for day in range(0, 48, 2)])
        other = Ledger.of([("statement", day, 1, 0) for day in range(1, 48, 2)] + in_two(entry, 17))
        self.assertEqual(joint_clash(one, other), (tuple(range(1, 25)), tuple(range(24))))
        self.assertEqual(joined(one, other), [])
        other.drop(11)
        self.assertIsNone(joint_clash(one, other))
        self.assertEqual(len(joined(one, other)), 1)

    def test_a_clash_of_one_ledger_alone(self):
        entry = ("entry", 0, 3, THIRDS)
        one = Ledger.of([entry] + [("statement", day, 1, 0) for day in range(3)])
        self.assertEqual(joint_clash(one, Ledger.of([entry])), ((1, 2, 3), ()))
        self.assertEqual(joint_clash(Ledger.of([entry]), one), ((), (1, 2, 3)))
        # With a statement of the other one, two are enough.
        other = Ledger.of([("statement", 0, 1, 1), entry])
        self.assertEqual(joint_clash(one, other), ((1,), (0,)))
        other.change(0, ("statement", 0, 1, BIG))
        self.assertEqual(joint_clash(one, other), ((), (0,)))

    def test_parting_where_no_cut_is_left(self):
        entry = ("entry", 0, 3, THIRDS)
        none = Ledger.of([entry, ("statement", 0, 1, 2)])
        some = Ledger.of([entry, ("statement", 0, 1, 0)])
        for one, other, which in ((none, some, 1), (some, none, 0)):
            statement, found = parting(one, other)
            self.assertEqual(found, which)
            self.assertIn(statement[3], numbers(some, statement[1:3]))
        self.assertIsNone(parting(none, Ledger.of([entry, ("statement", 0, 1, 3)])))
        empty = Ledger.of([("statement", 0, 1, 1)])
        self.assertEqual(parting(empty, Ledger())[1], 1)

    def test_parting_through_0(self):
        quarter = ("entry", 0, 9, ((1, 4),))
        inner = Ledger.of([quarter, ("statement", 1, 2, 1)])
        outer = Ledger.of([quarter, ("statement", 1, 2, 0)])
        self.assertEqual([left(inner), left(outer)], [[((1, 4), (3, 4))], [((0, 1), (1, 4)), ((3, 4), (1, 1))]])
        self.assertEqual([parting(inner, outer)[1], parting(outer, inner)[1]], [0, 0])
        every = Ledger.of([quarter])
        self.assertEqual([parting(inner, every)[1], parting(every, inner)[1]], [1, 0])


class AmountsAlone(unittest.TestCase):
    def test_later_days_and_integers_added(self):
        drawn = random.Random(89)
        for _ in range(120):
            one, other = draw_pair(drawn, DAYS)
            whole = ("entry", 0, DAYS, ((1, 5),))
            days = drawn.choice((1, 12, 10 ** 29, LAST - DAYS))
            more = drawn.choice((-3, 0, 1))
            first, second = [[whole] + items_of(ledger) for ledger in (one, other)]
            if max(len(entries_of(first)), len(entries_of(second))) > 6:
                continue
            before = (Ledger.of(first), Ledger.of(second))
            after = [Ledger.of(moved(with_integers(items, more), days)) for items in (first, second)]
            self.assertEqual(joint_clash(*after), joint_clash(*before))
            self.assertEqual(joined(*after), joined(*before))
            parted, again = parting(*before), parting(*after)
            self.assertEqual(parted is None, again is None)
            if again:
                kind, start, many, number = again[0]
                possible = [number in numbers(ledger, (start, many)) for ledger in after]
                self.assertEqual(possible, [again[1] == 0, again[1] == 1])
                self.assertEqual(again[1], parted[1])

    def test_unders_up_to_10_to_the_6(self):
        drawn = random.Random(90)
        for _ in range(60):
            entries = [draw_entry(drawn, 30, under=10 ** 6) for _ in range(3)]
            one, other = [Ledger.of(entries + draw_told(drawn, entries, 30, 20, others=others, wrong=0))
                          for others in (0.02, 0)]
            other = Ledger.of(rewritten(drawn, entries, 30) + other.statements())
            ring, other_ring = Ring(items_of(one), 30), Ring(items_of(other), 30)
            self.assertEqual(joined(one, other), ring.spans(ring.left & other_ring.left))
            found = joint_clash(one, other)
            self.assertEqual(found is None, bool(joined(one, other)))
            part = parting(one, other)
            self.assertEqual(part is None, ring.left == other_ring.left)
            if part is not None:
                possible = [part[0][3] in numbers(ledger, part[0][1:3]) for ledger in (one, other)]
                self.assertEqual(possible, [part[1] == 0, part[1] == 1])
                amounts = exact(entries, part[0][1:3])
                self.assertLess(abs(fraction(amounts) - part[0][3]), 1)


if __name__ == "__main__":
    unittest.main()
