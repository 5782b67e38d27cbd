import inspect
import random
import unittest
from fractions import Fraction
from itertools import combinations

from plain import draw_entries, ratio
from ring import (by_number, draw_ledger, draw_told, fewest, items_of, moved, rewritten, ring_of, with_integers)
from samples import BIG, LAST, THIRDS, state

from onecut import clashes as module
from onecut.clashes import clash, repair
from onecut.ledger import Ledger
from onecut.left import left

DAYS = 9


def equal_parts(many, statements, number=0):
    """That many days of equal parts of one, for each of the first ones of which the number was told."""
    items = [("entry", 0, many, ((1, many),))]
    return Ledger.of(items + [("statement", day, 1, number) for day in range(statements)])


class Interface(unittest.TestCase):
    def test_names_of_parameters(self):
        for name in ("clash", "repair"):
            function = getattr(module, name)
            self.assertEqual(list(inspect.signature(function).parameters), ["ledger"])
            self.assertEqual(function.__module__, "onecut.clashes")

    def test_calls_by_name(self):
        ledger = equal_parts(3, 3)
        self.assertEqual(clash(ledger=ledger), (1, 2, 3))
        self.assertEqual(repair(ledger=ledger), ((3,), (0, 1)))


class CellByCell(unittest.TestCase):
    """Both functions against a plain reckoning over all cells, and all smaller lots of statements."""

    def check_clash(self, ledger, ring):
        found = clash(ledger)
        if ring.left:
            self.assertIsNone(found)
            return 0
        statements = by_number(ledger)
        self.assertIsInstance(found, tuple)
        self.assertEqual(list(found), sorted(set(found)))
        self.assertLessEqual(set(found), set(statements))
        self.assertFalse(ring.telling_all(statements[number] for number in found))
        lots = [ring.telling(statement) for statement in statements.values()]
        for some in combinations(lots, len(found) - 1):
            self.assertTrue(ring.cells.intersection(*some))
        return len(found)

    def check_repair(self, ledger, ring):
        statements = by_number(ledger)
        told = {cell: [number for number in statements if cell in ring.telling(statements[number])]
                for cell in ring.cells}
        most = max(map(len, told.values()))
        cell = min(cell for cell in ring.cells if len(told[cell]) == most)
        dropped = tuple(number for number in sorted(statements) if number not in told[cell])
        self.assertEqual(repair(ledger), (dropped, ratio(ring.lows[cell])))
        return len(dropped)

    def test_drawn_ledgers(self):
        drawn = random.Random(51)
        sizes, drops = [], []
        for _ in range(500):
            ledger = draw_ledger(drawn, DAYS, most=8, others=0.4)
            ring = ring_of(ledger, DAYS)
            before = state(ledger)
            sizes.append(self.check_clash(ledger, ring))
            drops.append(self.check_repair(ledger, ring))
            self.assertEqual(state(ledger), before)
            self.assertEqual((clash(ledger), repair(ledger)), (clash(ledger.copy()), repair(ledger.copy())))
        self.assertTrue(all(sizes.count(size) > 5 for size in (0, 1, 2, 3)), sizes)
        self.assertTrue(all(drops.count(size) > 5 for size in (0, 1, 2)), drops)

    def test_up_to_24_statements(self):
        drawn = random.Random(52)
        sizes = []
        for _ in range(60):
            entries = draw_entries(drawn, 20, under=drawn.choice((9, 10 ** 6)), most=6)
            many = drawn.randint(9, 24)
            ledger = Ledger.of(draw_told(drawn, entries, 20, many, others=0.6, wrong=0) + entries)
            ring = ring_of(ledger, 20)
            sizes.append(self.check_clash(ledger, ring))
            self.check_repair(ledger, ring)
        self.assertGreater(sizes.count(0), 3)
        self.assertGreater(sizes.count(2), 9)

    def test_wide_clashes(self):
        # Statements that leave out little each contradict each other only in greater lots.
        drawn = random.Random(53)
        sizes = []
        for _ in range(60):
            many = drawn.randint(4, 12)
            amounts = tuple((1, drawn.randint(4, 12)) for _ in range(drawn.randint(1, 4)))
            items = [("entry", 0, 16, amounts)]
            items += [("statement", day, 1, 0) for day in drawn.sample(range(16), many)]
            drawn.shuffle(items)
            ledger = Ledger.of(items)
            sizes.append(self.check_clash(ledger, ring_of(ledger, 16)))
            self.check_repair(ledger, ring_of(ledger, 16))
        self.assertGreater(len([size for size in sizes if size > 3]), 9, sizes)

    def test_dropping(self):
        drawn = random.Random(54)
        for _ in range(150):
            ledger = draw_ledger(drawn, DAYS, others=0.5)
            dropped, cut = repair(ledger)
            for number in dropped:
                self.assertEqual(left(ledger), [])
                ledger.drop(number)
            self.assertEqual(left(ledger)[0][0], cut)
            self.assertIsNone(clash(ledger))
            self.assertEqual(repair(ledger), ((), cut))


class ByHand(unittest.TestCase):
    def test_equal_parts_of_one(self):
        for many in range(2, 25):
            ledger = equal_parts(many, many)
            self.assertEqual(clash(ledger), tuple(range(1, many + 1)))
            self.assertEqual(repair(ledger), ((many,), (0, 1)))
            ledger.drop(many // 2 + 1)
            self.assertIsNone(clash(ledger))
            # Only the day that was not told about may be told 1.
            self.assertEqual(repair(ledger), ((), ratio(Fraction(many - many // 2 - 1, many))))
            self.assertEqual(left(ledger)[0][0], repair(ledger)[1])

    def test_parts_of_minus_one(self):
        items = [("entry", 3, 24, ((-1, 24),))] + [("statement", day, 1, 0) for day in range(3, 27)]
        self.assertEqual(clash(Ledger.of(items)), tuple(range(1, 25)))

    def test_two_of_many(self):
        ledger = equal_parts(24, 24, 1)
        self.assertEqual(len(clash(ledger)), 2)
        dropped, cut = repair(ledger)
        # The cut 0 tells 1 for the last day alone.
        self.assertEqual((dropped, cut), (tuple(range(1, 24)), (0, 1)))

    def test_a_statement_that_no_cut_tells(self):
        for number in (2, -1, BIG, -BIG):
            items = [("statement", 1, 1, 0), ("statement", 2, 1, 0), ("statement", 0, 1, number)]
            ledger = Ledger.of(items + [("entry", 0, 3, THIRDS), ("statement", 0, 1, 0)])
            self.assertEqual(clash(ledger), (2,))
            self.assertEqual(repair(ledger), ((1, 2), (0, 1)))
        # With an exact amount that is an integer, all cuts tell just this one.
        ledger = Ledger.of([("entry", 0, 3, THIRDS), ("statement", 0, 3, 0), ("statement", 0, 3, 1)])
        self.assertEqual([clash(ledger), repair(ledger)], [(1,), ((1,), (0, 1))])

    def test_the_same_statement_twice(self):
        items = [("entry", 0, 3, THIRDS)] + [("statement", day, 1, 0) for day in (0, 0, 1, 1, 2)]
        found = clash(Ledger.of(items))
        self.assertEqual(len(found), 3)
        self.assertIn(5, found)
        self.assertEqual(repair(Ledger.of(items)), ((5,), (0, 1)))

    def test_without_items(self):
        self.assertEqual([clash(Ledger()), repair(Ledger())], [None, ((), (0, 1))])
        ledger = Ledger.of([("statement", 0, 1, 1), ("statement", 5, LAST - 5, 0)])
        self.assertEqual([clash(ledger), repair(ledger)], [(0,), ((0,), (0, 1))])

    def test_the_least_of_the_best_cuts(self):
        ledger = Ledger.of([("entry", 0, 9, ((1, 4),)), ("statement", 0, 1, 0), ("statement", 2, 1, 1)])
        # Day 2 is told 1 by the cuts from 1/4 up to below 1/2.
        self.assertEqual(repair(ledger), ((), (1, 4)))
        ledger.add(("statement", 1, 1, 1))
        self.assertEqual(repair(ledger), ((3,), (1, 4)))
        ledger.add(("statement", 1, 1, 1))
        self.assertEqual(repair(ledger), ((2,), (1, 2)))


class AmountsAlone(unittest.TestCase):
    """Only the amounts count, and where they come, numbers and cuts aside, does not."""

    def test_written_otherwise(self):
        drawn = random.Random(55)
        for _ in range(150):
            entries = draw_entries(drawn, DAYS, most=3)
            statements = draw_told(drawn, entries, DAYS, drawn.randint(0, 9), others=0.5)
            ledger = Ledger.of(statements + entries)
            twin = Ledger.of(statements + rewritten(drawn, entries, DAYS))
            self.assertEqual([clash(twin), repair(twin)], [clash(ledger), repair(ledger)])

    def test_integers_added(self):
        drawn = random.Random(56)
        for _ in range(100):
            entries = draw_entries(drawn, DAYS, most=3) + [("entry", 2, 5, ((1, 3), (2, 7)))]
            ledger = Ledger.of(entries + draw_told(drawn, entries, DAYS, 7, others=0.5))
            twin = Ledger.of(with_integers(items_of(ledger), drawn.choice((-7, -1, 1, 3))))
            self.assertEqual([clash(twin), repair(twin)], [clash(ledger), repair(ledger)])

    def test_later_days(self):
        drawn = random.Random(57)
        for _ in range(100):
            ledger = draw_ledger(drawn, DAYS, others=0.5)
            twin = Ledger.of(moved(items_of(ledger), drawn.choice((1, 12, 10 ** 29, LAST - DAYS))))
            again = Ledger.of(items_of(ledger))
            self.assertEqual([clash(twin), repair(twin)], [clash(again), repair(again)])

    def test_whole_rounds_later(self):
        drawn = random.Random(58)
        for _ in range(100):
            amounts = tuple((drawn.randint(-9, 9), drawn.choice((1, 2, 4, 5, 7, 11))) for _ in range(4))
            amounts = tuple(ratio(Fraction(*one)) for one in amounts)
            entry = ("entry", 0, LAST, amounts)
            statements = draw_told(drawn, [entry], 30, 9, others=0.5)
            ledger = Ledger.of([entry] + statements)
            # 1540 rounds of four days have an integer as their sum.
            twin = Ledger.of([entry] + moved(statements, 4 * 1540 * drawn.choice((1, 10 ** 25))))
            self.assertEqual([clash(twin), repair(twin)], [clash(ledger), repair(ledger)])
            # Any number of rounds turns the ring, and the same statements contradict each other.
            turned = Ledger.of([entry] + moved(statements, 4 * 10 ** 25 + 4))
            self.assertEqual(clash(turned), clash(ledger))
            self.assertEqual(len(repair(turned)[0]), len(repair(ledger)[0]))

    def test_numbers_and_order_of_items(self):
        drawn = random.Random(59)
        for _ in range(150):
            ledger = draw_ledger(drawn, DAYS, others=0.5)
            items = items_of(ledger)
            drawn.shuffle(items)
            twin = Ledger.of(items)
            self.assertEqual(clash(twin) is None, clash(ledger) is None)
            self.assertEqual(len(clash(twin) or ()), len(clash(ledger) or ()))
            self.assertEqual(repair(twin)[1], repair(ledger)[1])
            dropped = [sorted(by_number(one)[number] for number in repair(one)[0]) for one in (ledger, twin)]
            self.assertEqual(*dropped)


class TheFewest(unittest.TestCase):
    def test_the_plain_reckoning_of_the_fewest(self):
        lots = [frozenset((1, 2)), frozenset((2, 3)), frozenset((3, 1))]
        self.assertEqual([fewest(lots, frozenset((1, 2, 3)), wanted) for wanted in
                          (frozenset(), frozenset((1,)), frozenset((1, 2)), frozenset((1, 2, 3)))], [3, 2, 1, 0])


if __name__ == "__main__":
    unittest.main()
