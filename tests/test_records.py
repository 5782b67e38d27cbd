import inspect
import random
import unittest
from itertools import combinations

from plain import draw_entries, draw_ratio, ratio
from ring import (by_number, draw_ledger, draw_told, fewest, items_of, moved, rewritten, Ring, ring_of, with_integers)
from samples import LAST, NOT_INTEGERS, THIRDS, check_raises, state

from onecut import records as module
from onecut.errors import BadDay, NothingLeft
from onecut.kinds import wrong_part
from onecut.ledger import Ledger
from onecut.left import left, numbers, together, told
from onecut.records import needed, plan, record

DAYS = 9
PARAMETERS = {"record": ["ledger"], "needed": ["ledger"], "plan": ["ledger", "last"]}
NOT_LASTS = NOT_INTEGERS + (-1, 201, -200, LAST, 10 ** 100 - 1, 1 - 10 ** 100)


def sample():
    """The ledger of the document's example."""
    return Ledger.of([("entry", 0, 3, THIRDS), ("statement", 0, 1, 0)])


def nothing_left():
    return Ledger.of([("entry", 0, 3, THIRDS), ("statement", 0, 1, 2)])


def dense(drawn, days):
    """A ledger with an amount on each day, and what its statements leave."""
    amounts = tuple((1, drawn.randint(3, 12)) for _ in range(drawn.randint(1, 4)))
    items = [("entry", 0, days, amounts)]
    items += draw_told(drawn, items, days, drawn.randint(0, 7), others=0.02, wrong=0)
    drawn.shuffle(items)
    ledger = Ledger.of(items)
    return ring_of(ledger, days), ledger


def gap_count(spans):
    """The number of gaps in the ring; one that goes round through 0 counts once."""
    gaps = [(high, low) for (_, high), (low, _) in zip(spans, spans[1:] + spans[:1])]
    return len([(high, low) for high, low in gaps if (high, low) != ((1, 1), (0, 1))])


def depth(tree):
    return 0 if len(tree) == 1 else 1 + max(depth(tree[3]), depth(tree[4]))


def least_depth(ring, cells, known):
    """The fewest asks in the worst case, by trying all of them."""
    if cells not in known:
        found = None if not ring.all_sure(cells) else 0
        if found is None:
            parts = set()
            for stretch in ring.stretches():
                lesser = frozenset(cell for cell in cells
                                   if ring.told(ring.lows[cell], stretch) == min(ring.numbers(stretch, cells)))
                if lesser != cells:
                    parts.add(lesser)
            found = 1 + min(max(least_depth(ring, part, known), least_depth(ring, cells - part, known))
                            for part in parts)
        known[cells] = found
    return known[cells]


class Interface(unittest.TestCase):
    def test_names_of_parameters(self):
        for name, parameters in PARAMETERS.items():
            function = getattr(module, name)
            self.assertEqual(list(inspect.signature(function).parameters), parameters)
            self.assertEqual(function.__module__, "onecut.records")

    def test_calls_by_name(self):
        self.assertEqual(len(record(ledger=sample())), 1)
        self.assertEqual(needed(ledger=sample()), (1,))
        self.assertEqual(plan(last=1, ledger=sample()), ("sure",))

    def test_lists_are_new(self):
        ledger = sample()
        for one in (ledger, Ledger()):
            first = record(one)
            kept = list(first)
            first.append(None)
            self.assertEqual(record(one), kept)
            self.assertEqual(items_of(one), items_of(one.copy()))


class Records(unittest.TestCase):
    def check(self, ledger):
        found = record(ledger)
        self.assertIsInstance(found, list)
        for statement in found:
            self.assertIsNone(wrong_part(statement))
            self.assertEqual(statement[0], "statement")
        self.assertEqual(left(Ledger.of(ledger.entries() + found)), left(ledger))
        self.assertEqual(len(found), gap_count(left(ledger)))
        self.assertEqual(found, record(ledger))
        return found

    def test_drawn_ledgers(self):
        drawn = random.Random(61)
        sizes = []
        for _ in range(400):
            ledger = draw_ledger(drawn, DAYS)
            before = state(ledger)
            if left(ledger):
                sizes.append(len(self.check(ledger)))
            else:
                check_raises(self, NothingLeft, {}, record, ledger)
            self.assertEqual(state(ledger), before)
        self.assertTrue(all(sizes.count(size) > 5 for size in (0, 1, 2)), sizes)

    def test_no_shorter_record(self):
        # Against all lots of fewer statements about any stretch.
        drawn = random.Random(62)
        sizes = []
        for _ in range(120):
            ring, ledger = dense(drawn, 7)
            if not ring.left:
                continue
            lots = {ring.telling(("statement", *stretch, number))
                    for stretch in ring.stretches() for number in ring.numbers(stretch, ring.cells)}
            found = self.check(ledger)
            self.assertEqual(ring.telling_all(found), ring.left)
            for many in range(len(found)):
                for some in combinations(lots, many):
                    self.assertNotEqual(ring.cells.intersection(*some), ring.left)
            sizes.append(len(found))
        self.assertTrue(all(sizes.count(size) > 3 for size in (0, 1, 2)), sizes)

    def test_many_gaps(self):
        # Every other cell is ruled out.
        entry = ("entry", 0, LAST, ((1, 24),))
        statements = [("statement", day, 1, 0) for day in range(0, 24, 2)]
        ledger = Ledger.of([entry] + statements + statements)
        self.assertEqual(len(left(ledger)), 12)
        self.assertEqual(len(self.check(ledger)), 12)
        self.assertEqual(needed(ledger), tuple(range(1, 13)))

    def test_a_gap_through_0(self):
        ledger = Ledger.of([("entry", 0, 9, ((1, 4),)), ("statement", 1, 1, 0), ("statement", 3, 1, 0),
                            ("statement", 0, 1, 0)])
        # 1 is told for day 3 by the cuts up to below 1/4, and for day 0 by those from 3/4 on.
        self.assertEqual(left(ledger), [((1, 4), (1, 2))])
        self.assertEqual(len(self.check(ledger)), 1)
        self.assertEqual(needed(ledger), (1, 2, 3))
        ledger.drop(1)
        self.assertEqual(left(ledger), [((1, 4), (3, 4))])
        self.assertEqual(len(self.check(ledger)), 1)
        self.assertEqual(needed(ledger), (2, 3))
        ledger.drop(2)
        self.assertEqual([left(ledger), len(self.check(ledger))], [[((0, 1), (3, 4))], 1])
        ledger.change(3, ("statement", 3, 1, 0))
        self.assertEqual([left(ledger), len(self.check(ledger))], [[((1, 4), (1, 1))], 1])

    def test_two_gaps_of_which_one_goes_through_0(self):
        ledger = Ledger.of([("entry", 0, 9, ((1, 6),)), ("statement", 2, 1, 0), ("statement", 5, 2, 0)])
        self.assertEqual(left(ledger), [((1, 6), (1, 2)), ((2, 3), (5, 6))])
        self.assertEqual(len(self.check(ledger)), 2)

    def test_without_statements(self):
        self.assertEqual([record(Ledger()), needed(Ledger())], [[], ()])
        ledger = Ledger.of([("entry", 0, LAST, THIRDS), ("statement", 0, 3, 1), ("statement", 3, 3, 1)])
        self.assertEqual([record(ledger), needed(ledger)], [[], ()])

    def test_far_days(self):
        drawn = random.Random(63)
        for _ in range(60):
            first = drawn.randrange(10 ** 29)
            amounts = (draw_ratio(drawn, 10 ** 6, 10 ** 6), (5, 999))
            ledger = Ledger.of([("entry", first, LAST - first, amounts)])
            for _ in range(drawn.randint(1, 24)):
                start = drawn.randrange(LAST)
                stretch = (start, drawn.randint(1, LAST - start))
                ledger.add(("statement", *stretch, told(ledger, (355, 1131), stretch)))
            self.check(ledger)

    def test_a_record_in_the_place_of_all_statements(self):
        drawn = random.Random(64)
        for _ in range(80):
            ledger = draw_ledger(drawn, DAYS, others=0.05)
            if not left(ledger):
                continue
            entries = ledger.entries()
            kept = [by_number(ledger)[number] for number in needed(ledger)]
            for twin in (Ledger.of(entries + record(ledger)), Ledger.of(kept + entries)):
                self.assertEqual(left(twin), left(ledger))
                self.assertEqual(plan(twin, DAYS), plan(ledger, DAYS))
                for stretch in ring_of(ledger, DAYS).stretches():
                    self.assertEqual(numbers(twin, stretch), numbers(ledger, stretch))
                self.assertEqual(len(record(twin)), len(record(ledger)))
                stretches = drawn.sample(ring_of(ledger, DAYS).stretches(), 4)
                self.assertEqual(together(twin, stretches), together(ledger, stretches))


class Needed(unittest.TestCase):
    def check(self, ledger, ring):
        statements = by_number(ledger)
        found = needed(ledger)
        self.assertIsInstance(found, tuple)
        self.assertEqual(list(found), sorted(set(found)))
        self.assertLessEqual(set(found), set(statements))
        self.assertEqual(ring.telling_all(statements[number] for number in found), ring.left)
        kept = [statements[number] for number in found]
        self.assertEqual(left(Ledger.of(ledger.entries() + kept)), left(ledger))
        lots = [ring.telling(statement) for statement in statements.values()]
        if found:
            for some in combinations(lots, len(found) - 1):
                self.assertNotEqual(ring.cells.intersection(*some), ring.left)
        return len(found)

    def test_drawn_ledgers(self):
        drawn = random.Random(65)
        sizes = []
        for _ in range(400):
            ledger = draw_ledger(drawn, DAYS, others=0.05)
            ring = ring_of(ledger, DAYS)
            before = state(ledger)
            if ring.left:
                sizes.append(self.check(ledger, ring))
                self.assertEqual(needed(ledger), needed(ledger.copy()))
            else:
                check_raises(self, NothingLeft, {}, needed, ledger)
            self.assertEqual(state(ledger), before)
        self.assertTrue(all(sizes.count(size) > 5 for size in (0, 1, 2)), sizes)

    def test_dense_ledgers(self):
        drawn = random.Random(76)
        sizes = [self.check(ledger, ring) for ring, ledger in [dense(drawn, 9) for _ in range(200)] if ring.left]
        self.assertTrue(all(sizes.count(size) > 5 for size in (0, 1, 2, 3)), sizes)

    def test_up_to_24_statements(self):
        drawn = random.Random(66)
        sizes = []
        for _ in range(60):
            entries = draw_entries(drawn, 20, under=drawn.choice((9, 10 ** 6)), most=6)
            statements = draw_told(drawn, entries, 20, drawn.randint(9, 24), others=0, wrong=0)
            ledger = Ledger.of(statements + entries)
            sizes.append(self.check(ledger, ring_of(ledger, 20)))
        self.assertGreater(sizes.count(2), 3)

    def test_wide_needs(self):
        # Statements that leave out little each are needed in greater lots.
        drawn = random.Random(67)
        sizes = []
        for _ in range(60):
            amounts = tuple((1, drawn.randint(4, 12)) for _ in range(drawn.randint(1, 4)))
            items = [("entry", 0, 16, amounts)]
            items += [("statement", day, 1, 0) for day in drawn.sample(range(16), drawn.randint(3, 9))]
            drawn.shuffle(items)
            ledger = Ledger.of(items)
            ring = ring_of(ledger, 16)
            if ring.left:
                sizes.append(self.check(ledger, ring))
        self.assertGreater(len([size for size in sizes if size > 3]), 9, sizes)

    def test_of_equal_statements_one_is_needed(self):
        ledger = Ledger.of([("statement", 0, 1, 0), ("entry", 0, 3, THIRDS), ("statement", 0, 1, 0)])
        self.assertIn(needed(ledger), [(0,), (2,)])
        self.assertEqual(len(record(ledger)), 1)


class Plans(unittest.TestCase):
    def walk_tree(self, tree, ring, cells, last):
        """Follows every answer, and returns how many asks there are in the worst case."""
        self.assertIsInstance(tree, tuple)
        if tree == ("sure",):
            for first, many in ring.stretches():
                if first + many <= last:
                    self.assertEqual(len(ring.numbers((first, many), cells)), 1)
            return 0
        word, first, many, lesser, greater = tree
        self.assertEqual([word, type(first), type(many)], ["ask", int, int])
        self.assertTrue(first >= 0 and many >= 1 and first + many <= last)
        asked = ring.numbers((first, many), cells)
        self.assertEqual(len(asked), 2)
        depths = []
        for number, after in zip(asked, (lesser, greater)):
            telling = frozenset(cell for cell in cells if ring.told(ring.lows[cell], (first, many)) == number)
            depths.append(self.walk_tree(after, ring, telling, last))
        return 1 + max(depths)

    def test_against_all_other_plans(self):
        drawn = random.Random(68)
        depths = []
        for _ in range(150):
            ledger = draw_ledger(drawn, 6, most=2, others=0)
            last = drawn.randint(0, 6)
            if not left(ledger):
                check_raises(self, NothingLeft, {}, plan, ledger, last)
                continue
            before = state(ledger)
            tree = plan(ledger, last)
            self.assertEqual(state(ledger), before)
            self.assertEqual(tree, plan(ledger.copy(), last))
            whole = ring_of(ledger, 6)
            worst = self.walk_tree(tree, whole, whole.left, last)
            # Only the cells of the days up to last can be told apart.
            self.assertEqual(worst, depth(tree))
            fewer = Ring(ledger.entries(), last)
            touched = frozenset(cell for cell in fewer.cells if any(
                fewer.lows[cell] <= whole.lows[one] < fewer.highs[cell] for one in whole.left))
            self.assertEqual(worst, least_depth(fewer, touched, {}))
            depths.append(worst)
        self.assertTrue(all(depths.count(worst) > 5 for worst in (0, 1, 2)), depths)

    def test_played_by_cuts(self):
        drawn = random.Random(69)
        for _ in range(40):
            ledger = draw_ledger(drawn, 12, others=0)
            if not left(ledger):
                continue
            last = drawn.randint(0, 20)
            ring = ring_of(ledger, 20)
            tree = plan(ledger, last)
            for cell in ring.left:
                self.play(ledger, tree, ratio(ring.lows[cell]), last)

    def play(self, ledger, tree, cut, last):
        """Asks, and adds the cut's answers to a copy, until all is sure."""
        asked = ledger.copy()
        while tree != ("sure",):
            _, first, many, lesser, greater = tree
            possible = numbers(asked, (first, many))
            self.assertEqual(len(possible), 2)
            answer = told(asked, cut, (first, many))
            asked = Ledger.of(asked.entries() + record(asked) + [("statement", first, many, answer)])
            tree = lesser if answer == possible[0] else greater
        for first in range(last):
            for many in range(1, last - first + 1):
                self.assertEqual(numbers(asked, (first, many)), [told(ledger, cut, (first, many))])

    def test_up_to_200_days(self):
        drawn = random.Random(70)
        for last in (199, 200):
            for _ in range(3):
                amounts = tuple(draw_ratio(drawn, 10 ** 6, 10 ** 6) for _ in range(4))
                ledger = Ledger.of([("entry", drawn.randrange(9), LAST - 9, amounts), ("entry", 0, LAST, ((1, 101),))])
                ledger.add(("statement", 0, 3, told(ledger, (1, 2), (0, 3))))
                ring = ring_of(ledger, 200)
                cells = [cell for cell in sorted(ring.left)]
                tree = plan(ledger, last)
                self.assertLessEqual(depth(tree), 8)
                self.assertEqual(self.ask_all(tree, ring, cells, last), depth(tree))
                points = {-total % 1 for total in ring.sums[:last + 1]}
                apart = len([cell for cell in cells[1:] if ring.lows[cell] in points]) + 1
                # In the ring, the last cell and the first one are parted by the point 0, which is one of the points.
                self.assertEqual(depth(tree), (apart - 1).bit_length())

    def ask_all(self, tree, ring, cells, last):
        """Follows every answer as above; at the end, all points up to last lie outside of what is left."""
        if tree == ("sure",):
            for day in range(last + 1):
                self.assertEqual(len({ring.told(ring.lows[cell], (0, day)) for cell in cells}), 1)
            return 0
        _, first, many, lesser, greater = tree
        self.assertLessEqual(first + many, last)
        asked = ring.numbers((first, many), cells)
        self.assertEqual(len(asked), 2)
        parts = [[cell for cell in cells if ring.told(ring.lows[cell], (first, many)) == number] for number in asked]
        return 1 + max(self.ask_all(after, ring, part, last) for part, after in zip(parts, (lesser, greater)))

    def test_by_hand(self):
        ledger = Ledger.of([("entry", 0, LAST, THIRDS)])
        self.assertEqual(plan(ledger, 0), ("sure",))
        self.assertEqual(plan(ledger, 1), ("ask", 0, 1, ("sure",), ("sure",)))
        self.assertEqual([depth(plan(ledger, last)) for last in (2, 3, 4, 200)], [2, 2, 2, 2])
        # Nothing is asked about integers.
        self.assertEqual(plan(Ledger.of([("entry", 0, LAST, ((7, 1), (-3, 1)))]), 200), ("sure",))
        self.assertEqual(plan(Ledger(), 200), ("sure",))
        eighths = Ledger.of([("entry", 0, LAST, ((1, 8),))])
        self.assertEqual([depth(plan(eighths, last)) for last in range(10)], [0, 1, 2, 2, 3, 3, 3, 3, 3, 3])
        self.assertEqual(depth(plan(Ledger.of([("entry", 0, 200, ((1, 256),))]), 200)), 8)

    def test_days_after_the_last_one_do_not_matter(self):
        ledger = Ledger.of([("entry", 0, 3, THIRDS), ("statement", 1, 2, 1)])
        other = Ledger.of([("entry", 0, 3, THIRDS), ("statement", 1, 2, 1), ("entry", 5, 5, ((1, 7),))])
        self.assertEqual([plan(ledger, last) for last in range(6)], [plan(other, last) for last in range(6)])
        self.assertNotEqual(plan(ledger, 9), plan(other, 9))

    def test_cuts_left_within_one_cell(self):
        # The statement is about later days, whose points lie inside a cell of the first ones.
        ledger = Ledger.of([("entry", 0, 4, ((1, 4),)), ("entry", 9, 9, ((1, 12),))])
        ledger.add(("statement", 9, 1, 1))
        self.assertEqual(left(ledger), [((11, 12), (1, 1))])
        self.assertEqual(plan(ledger, 9), ("sure",))
        ledger.add(("statement", 10, 1, 0))
        self.assertEqual(depth(plan(ledger, 12)), 0)
        ledger.change(2, ("statement", 9, 4, 1))
        self.assertEqual(left(ledger), [((2, 3), (5, 6)), ((11, 12), (1, 1))])
        self.assertEqual([depth(plan(ledger, last)) for last in (0, 1, 8, 11, 12, 13)], [0, 1, 1, 2, 2, 2])


class Errors(unittest.TestCase):
    def test_bad_last_days(self):
        for ledger in (sample(), nothing_left(), Ledger()):
            before = state(ledger)
            for last in NOT_LASTS:
                check_raises(self, BadDay, {}, plan, ledger, last)
            self.assertEqual(state(ledger), before)

    def test_nothing_left(self):
        ledger = nothing_left()
        before = state(ledger)
        for function in (record, needed):
            check_raises(self, NothingLeft, {}, function, ledger)
        for last in (0, 1, 200):
            check_raises(self, NothingLeft, {}, plan, ledger, last)
            check_raises(self, NothingLeft, {}, plan, last=last, ledger=ledger)
        self.assertEqual(state(ledger), before)

    def test_edges_of_last(self):
        self.assertEqual([plan(sample(), last) for last in (0, 200)][0], ("sure",))


class AmountsAlone(unittest.TestCase):
    """Only the amounts count."""

    def draw(self, seed, times):
        drawn = random.Random(seed)
        for _ in range(times):
            entries = draw_entries(drawn, DAYS, most=3) + [("entry", 2, 5, ((1, 3), (2, 7)))]
            statements = draw_told(drawn, entries, DAYS, drawn.randint(0, 7), others=0.05)
            ledger = Ledger.of(statements + entries)
            if left(ledger):
                yield drawn, entries, statements, ledger

    def test_written_otherwise(self):
        for drawn, entries, statements, ledger in self.draw(71, 120):
            twin = Ledger.of(statements + rewritten(drawn, entries, DAYS))
            self.assertEqual([record(twin), needed(twin)], [record(ledger), needed(ledger)])
            self.assertEqual(plan(twin, 12), plan(ledger, 12))

    def test_integers_added(self):
        for drawn, entries, statements, ledger in self.draw(72, 80):
            number = drawn.choice((-7, -1, 1, 3))
            twin = Ledger.of(with_integers(statements + entries, number))
            self.assertEqual(needed(twin), needed(ledger))
            self.assertEqual(len(record(twin)), len(record(ledger)))
            self.assertEqual(left(Ledger.of(twin.entries() + record(twin))), left(ledger))
            self.assertEqual(plan(twin, 12), plan(ledger, 12))

    def test_later_days(self):
        for drawn, entries, statements, ledger in self.draw(73, 80):
            days = drawn.choice((1, 12, 10 ** 29, LAST - DAYS))
            twin = Ledger.of(moved(statements + entries, days))
            self.assertEqual([record(twin), needed(twin)], [moved(record(ledger), days), needed(ledger)])

    def test_numbers_and_order_of_items(self):
        for drawn, entries, statements, ledger in self.draw(74, 80):
            items = statements + entries
            drawn.shuffle(items)
            twin = Ledger.of(items)
            self.assertEqual(len(needed(twin)), len(needed(ledger)))
            self.assertEqual(record(twin), record(ledger))
            self.assertEqual(plan(twin, 12), plan(ledger, 12))


class TheFewest(unittest.TestCase):
    def test_needed_and_record_by_the_plain_fewest(self):
        drawn = random.Random(75)
        for _ in range(60):
            ledger = draw_ledger(drawn, 6, most=6, others=0)
            ring = ring_of(ledger, 6)
            if ring.left:
                own = [ring.telling(statement) for statement in ledger.statements()]
                self.assertEqual(len(needed(ledger)), fewest(own, ring.cells, ring.left))


if __name__ == "__main__":
    unittest.main()
