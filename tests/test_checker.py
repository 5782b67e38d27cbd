import copy
import inspect
import random
import unittest
from itertools import combinations

from plain import draw_entries, draw_entry
from ring import draw_told, fewest, Ring
from samples import (BIGGEST, EDGE_ITEMS, LAST, NOT_CUTS, NOT_INTEGERS, NOT_ITEMS, ODD_THINGS, THIRDS, nested)
from verdict import bends, classes, is_cut, verdict

from onecut.checker import holds
from onecut.kinds import is_cut as is_own_cut
from onecut.ledger import Ledger
from onecut.left import left
from onecut.papers import apart_paper, drop_paper, paper, plan_paper, record_paper

THREE = [("entry", 0, 3, THIRDS)]
QUARTERS = [("entry", 0, 20, ((1, 4),))]
SURE = ("sure",)


def say(day, number, many=1):
    return ("statement", day, many, number)


def correct_papers():
    """One paper of each kind, and some at the edges."""
    return [
        ("fits", THREE, [say(0, 0)], (0, 1)),
        ("clash", THREE, [say(0, 0), say(1, 0), say(2, 0)]),
        ("drop", THREE, [say(0, 0), say(1, 0), say(2, 0)], [1], (1, 3)),
        ("record", THREE, [say(0, 0), say(1, 0), say(0, 0)], [say(0, 0, 2)]),
        ("plan", THREE, [say(0, 0)], 2, ("ask", 1, 1, SURE, SURE)),
        ("apart", THREE, [], [say(0, 0)], say(0, 1)),
        ("fits", [], [], (2, 3)),
        ("drop", [], [], [], (2, 3)),
        ("record", [], [], []),
        ("plan", [], [], 200, SURE),
        ("clash", [], [say(0, 1)]),
        ("apart", [], [], [say(0, 1)], say(0, 0)),
    ]


class Checks(unittest.TestCase):
    def check(self, thing, expected):
        before = copy.deepcopy(thing)
        found = holds(thing)
        self.assertIs(found, expected, thing)
        self.assertEqual(repr(thing), repr(before))

    def check_bent(self, thing):
        """The paper is correct, and what differs from it in one part is judged as the plain verdict does."""
        self.check(thing, True)
        accepted = 0
        for bent in bends(thing):
            expected = verdict(bent)
            if expected is not None:
                self.check(bent, expected)
                accepted += expected
        return accepted


class Interface(Checks):
    def test_names_of_parameters(self):
        self.assertEqual(list(inspect.signature(holds).parameters), ["thing"])
        self.assertEqual(holds.__module__, "onecut.checker")

    def test_calls_by_name(self):
        self.assertIs(holds(thing=("fits", [], [], (0, 1))), True)
        self.assertIs(holds(thing=None), False)


class AnyThing(Checks):
    def test_odd_things(self):
        names = ("fits", "clash", "drop", "record", "plan", "apart")
        for thing in NOT_INTEGERS + ODD_THINGS + NOT_CUTS + EDGE_ITEMS + tuple(pair[0] for pair in NOT_ITEMS) + names:
            self.check(thing, False)
            self.check((thing,), False)
            self.check([thing], False)
            if thing == []:
                continue
            for name in names:
                for many in range(5):
                    self.check((name,) + (thing,) * many, False)
                self.check((name, thing, [], (0, 1)), False)
                self.check((name, [], thing, [], (0, 1)), False)

    def test_deep_and_long_things(self):
        for thing in (nested(20, 1), nested(20, ()), ("fits", nested(18, 1), [], (0, 1)), ["fits"] * 5000,
                      ("fits", [("entry", 0, 1, THIRDS)] * 1000, [], (0, 1)), ("fits",) * 4, ("x" * 4000,) * 4,
                      ("drop", [], [], list(range(4900)), (0, 1)), ("plan", [], [], 0, nested(17, SURE)),
                      ("plan", [], [], BIGGEST, SURE), ("plan", [], [], -1, SURE), ("plan", [], [], 201, SURE)):
            self.check(thing, False)

    def test_each_part_in_the_place_of_others(self):
        for thing in correct_papers():
            self.check(thing, True)
            self.check(list(thing), False)
            self.check(thing + (None,), False)
            for at in range(len(thing)):
                self.check(thing[:at] + thing[at + 1:], False)
                for odd in NOT_INTEGERS + ODD_THINGS:
                    bent = thing[:at] + (odd,) + thing[at + 1:]
                    expected = verdict(bent)
                    self.assertIsNotNone(expected)
                    self.check(bent, expected)

    def test_other_names(self):
        for thing in correct_papers():
            for name in ("", "Fits", "fit", "clashes", "drops", "records", "plans", "parting", " fits", None, 0, True,
                         ("fits",), ["fits"], THREE):
                self.check((name,) + thing[1:], False)
            for name in ("fits", "clash", "drop", "record", "plan", "apart"):
                self.check((name,) + thing[1:], name == thing[0] or verdict((name,) + thing[1:]))


class Items(Checks):
    """Entries and statements are lists of items of their kind, at most 6 and 24."""

    def wrong_lists(self, kind):
        good = ("entry", 0, 1, THIRDS) if kind == "entry" else say(0, 0)
        other = say(0, 0) if kind == "entry" else ("entry", 0, 1, THIRDS)
        for thing in [pair[0] for pair in NOT_ITEMS] + [other]:
            yield [thing]
            yield [good, thing]
        yield from ((good,), (), None, True, 0, "", good)

    def test_wrong_lists(self):
        for wrong in self.wrong_lists("entry"):
            for thing in (("fits", wrong, [], (0, 1)), ("drop", wrong, [], [], (0, 1)), ("record", wrong, [], []),
                          ("plan", wrong, [], 0, SURE), ("clash", wrong, [say(50, 1)]),
                          ("apart", wrong, [], [say(50, 1)], say(60, 0))):
                self.check(thing, False)
        for wrong in self.wrong_lists("statement"):
            for thing in (("fits", [], wrong, (0, 1)), ("drop", [], wrong, [], (0, 1)), ("record", [], wrong, []),
                          ("record", [], [], wrong), ("plan", [], wrong, 0, SURE), ("clash", [], wrong),
                          ("apart", [], wrong, [say(50, 1)], say(60, 0)), ("apart", [], [], wrong, say(60, 0))):
                self.check(thing, False)

    def test_the_most(self):
        entry = ("entry", 0, 1, THIRDS)
        self.check(("fits", [entry] * 6, [], (0, 1)), True)
        self.check(("fits", [entry] * 7, [], (0, 1)), False)
        self.check(("plan", [entry] * 7, [], 0, SURE), False)
        even = [say(9, 0)]
        for name, rest in (("fits", ((0, 1),)), ("drop", ([], (0, 1))), ("record", ([],)), ("plan", (5, SURE))):
            self.check((name, [], even * 24, *rest), True)
            self.check((name, [], even * 25, *rest), False)
        self.check(("apart", [], even * 24, [say(50, 1)] * 24, say(60, 0)), True)
        self.check(("apart", [], even * 25, [say(50, 1)], say(60, 0)), False)
        self.check(("apart", [], [], [say(50, 1)] * 25, say(60, 0)), False)
        parts = [("entry", 0, 25, ((1, 25),))]
        self.check(("clash", [("entry", 0, 24, ((1, 24),))], [say(day, 0) for day in range(24)]), True)
        self.check(("clash", parts, [say(day, 0) for day in range(25)]), False)

    def test_edges_of_items(self):
        for item in EDGE_ITEMS:
            if item[0] == "entry":
                self.check(("fits", [item], [], (1, 2)), True)
            else:
                # Without entries all stretches are told 0.
                self.check(("fits", [], [item], (1, 2)), item[3] == 0)
                self.check(("clash", [], [item]), item[3] != 0)


class Fits(Checks):
    def test_cuts(self):
        for cut in NOT_CUTS:
            self.check(("fits", [], [], cut), False)
            self.check(("drop", [], [], [], cut), False)
            self.assertEqual(is_cut(cut), is_own_cut(cut))
        for cut in ((0, 1), (1, 2), (BIGGEST - 1, BIGGEST)):
            self.check(("fits", [], [], cut), True)
            self.check(("drop", [], [], [], cut), True)

    def test_any_cut_that_tells_all(self):
        for cut, fits in (((0, 1), True), ((1, 2), True), ((66, 100 + 1), True), ((2, 3), False), ((3, 4), False),
                          ((665, 1000 - 1), True), ((667, 1000), False)):
            self.check(("fits", THREE, [say(0, 0)], cut), fits)
        self.check(("fits", THREE, [say(0, 2)], (0, 1)), False)

    def test_far_days(self):
        entries = [("entry", 0, LAST, THIRDS)]
        self.check(("fits", entries, [say(LAST - 1, 1)], (0, 1)), False)
        self.check(("fits", entries, [say(LAST - 1, 0), say(0, LAST // 3, LAST)], (0, 1)), True)


class Clashes(Checks):
    def test_by_hand(self):
        told = [say(0, 0), say(1, 0), say(2, 0)]
        self.check(("clash", THREE, told), True)
        self.check(("clash", THREE, told[::-1]), True)
        self.check(("clash", THREE, told[:2]), False)
        self.check(("clash", THREE, told + [say(0, 0)]), False)
        self.check(("clash", THREE, told + [say(0, 0, 3)]), False)
        self.check(("clash", THREE, [say(0, 0, 3)]), True)
        self.check(("clash", THREE, [say(0, 2)]), True)
        self.check(("clash", THREE, [say(0, 2), say(1, 2)]), False)
        self.check(("clash", THREE, [say(0, 2), say(0, 0)]), False)
        self.check(("clash", THREE, []), False)
        self.check(("clash", [], []), False)

    def test_a_clash_need_not_be_the_smallest(self):
        # Any two of these contradict each other, and so do the first three without any two of them.
        told = [say(0, 0), say(1, 0), say(2, 0), say(0, 1)]
        self.check(("clash", THREE, told[:3]), True)
        self.check(("clash", THREE, [told[0], told[3]]), True)
        self.check(("clash", THREE, told), False)

    def test_lots_of_drawn_statements(self):
        drawn = random.Random(151)
        right = wider = 0
        for _ in range(150):
            entries = draw_entries(drawn, 8, most=3)
            statements = draw_told(drawn, entries, 8, 6, others=0.6)
            ring = Ring(entries, 8)
            telling = [ring.telling(statement) for statement in statements]
            least = fewest(telling, ring.cells, frozenset())
            for many in range(5):
                for some in combinations(statements, many):
                    thing = ("clash", entries, list(some))
                    self.check(thing, verdict(thing))
                    right += verdict(thing)
                    wider += verdict(thing) and many > least
        self.assertGreater(right, 99)
        self.assertGreater(wider, 20)


class Drops(Checks):
    TOLD = [say(0, 0), say(1, 0), say(2, 0), say(2, 0)]

    def test_by_hand(self):
        # Day 2 is told 0 by the cuts from 1/3 on, day 1 by all but those from there up to below 2/3.
        self.check(("drop", THREE, self.TOLD, [1], (1, 3)), True)
        self.check(("drop", THREE, self.TOLD, [1], (1, 2)), True)
        self.check(("drop", THREE, self.TOLD, [0], (2, 3)), True)
        self.check(("drop", THREE, self.TOLD, [1], (2, 3)), False)
        self.check(("drop", THREE, self.TOLD, [2, 3], (0, 1)), False)
        self.check(("drop", THREE, self.TOLD, [0, 1], (1, 3)), False)
        self.check(("drop", THREE, self.TOLD, [], (1, 3)), False)
        self.check(("drop", THREE, self.TOLD[:2], [], (0, 1)), True)
        self.check(("drop", THREE, self.TOLD[:2], [], (1, 3)), False)
        self.check(("drop", THREE, self.TOLD[:2], [0], (2, 3)), False)
        self.check(("drop", THREE, [say(0, 7), say(1, 7)], [0, 1], (1, 2)), True)
        self.check(("drop", THREE, [say(0, 7), say(1, 7)], [0], (1, 2)), False)

    def test_indexes(self):
        told = self.TOLD[:2] + [say(5, 7), say(6, 7)]
        self.check(("drop", THREE, told, [2, 3], (0, 1)), True)
        for dropped in ([3, 2], [2, 2, 3], [2, 3, 3], [2], [3], (2, 3), [2, 3, 4], [2, 4], [-2, -1], [2, -1],
                        ["2", "3"], [2, None], [2, (3,)], None, 2, "", [[2, 3]], [2, 3, True], [True, 2, 3]):
            self.check(("drop", THREE, told, dropped, (0, 1)), False)
        for dropped in ([-1, 2, 3], [-2, 2, 3], [2, 3, 9]):
            self.check(("drop", THREE, told, dropped, (0, 1)), False)
        for dropped, right in (([], True), ([-1], False), ([-2], False), ([2], False), ([-2, -1], False)):
            self.check(("drop", THREE, self.TOLD[:2], dropped, (0, 1)), right)
        told = [say(5, 7), say(6, 7)]
        self.check(("drop", THREE, told, [0, 1], (0, 1)), True)
        for dropped in ([False, True], [0, True], [False, 1], [1, 0], [0, 1, 1], [0, 0, 1], [0, 1, 2]):
            self.check(("drop", THREE, told, dropped, (0, 1)), False)


class Records(Checks):
    def test_by_hand(self):
        told = [say(0, 0), say(1, 0)]
        self.check(("record", THREE, told, [say(0, 0, 2)]), True)
        self.check(("record", THREE, told, [say(2, 1)]), True)
        self.check(("record", THREE, told, told), False)
        self.check(("record", THREE, told, [say(0, 0)]), False)
        self.check(("record", THREE, told, []), False)
        self.check(("record", THREE, told, [say(0, 0, 2), say(0, 0, 2)]), False)
        self.check(("record", THREE, told, [say(0, 0, 2), say(0, 1, 3)]), False)
        self.check(("record", THREE, told, [say(0, 1, 2)]), False)
        self.check(("record", THREE, told, (say(0, 0, 2),)), False)
        self.check(("record", THREE, [say(0, 1, 3)], []), True)
        self.check(("record", THREE, [say(0, 1, 3)], [say(0, 1, 3)]), False)
        # No cut is left, so there is nothing to record.
        self.check(("record", THREE, [say(0, 2)], [say(0, 2)]), False)
        self.check(("record", THREE, [say(0, 2)], []), False)

    def test_two_gaps(self):
        entries = [("entry", 0, 9, ((1, 6),))]
        told = [say(2, 0), say(5, 0, 2)]
        self.assertEqual(left(Ledger.of(entries + told)), [((1, 6), (1, 2)), ((2, 3), (5, 6))])
        self.check(("record", entries, told, told), True)
        self.check(("record", entries, told, told[::-1]), True)
        self.check(("record", entries, told * 3, told), True)
        self.check(("record", entries, told, told[:1]), False)
        self.check(("record", entries, told, told + told[:1]), False)

    def test_many_gaps(self):
        entries = [("entry", 0, 48, ((1, 48),))]
        told = [say(day, 0) for day in range(0, 48, 2)]
        self.check(("record", entries, told, told), True)
        self.check(("record", entries, told, told[::-1]), True)
        self.check(("record", entries, told, told[1:]), False)
        self.check(("record", entries, told, told + told[:1]), False)


class Plans(Checks):
    def test_by_hand(self):
        self.check(("plan", QUARTERS, [], 1, ("ask", 0, 1, SURE, SURE)), True)
        for tree in (SURE, ("ask", 0, 1, SURE, ("ask", 0, 1, SURE, SURE)), ("ask", 0, 2, SURE, SURE),
                     ("ask", 1, 1, SURE, SURE),
                     ("ask", 0, 0, SURE, SURE), ("ask", 0, True, SURE, SURE), ("ask", False, 1, SURE, SURE),
                     ("ask", 0, 1, SURE), ("ask", 0, 1, SURE, SURE, SURE), ["ask", 0, 1, SURE, SURE],
                     ("ask", 0, 1, ["sure"], SURE), ("ask", 0, 1, "sure", SURE), ("ask", 0, 1, ("sure", 0), SURE),
                     ("sure", 0, 1, SURE, SURE), ("ask",), (), ("Ask", 0, 1, SURE, SURE), ("ask", -1, 2, SURE, SURE),
                     ("ask", "0", 1, SURE, SURE), ("ask", 0, (1,), SURE, SURE), ("ask", 0, 1, None, SURE)):
            self.check(("plan", QUARTERS, [], 1, tree), False)
            self.assertIs(verdict(("plan", QUARTERS, [], 1, tree)), False)

    def all_trees(self, ring, cells, last, most):
        """All correct trees with at most so many asks."""
        if classes(ring, cells, last) == 1:
            return [SURE]
        found = []
        for first, many in [one for one in ring.stretches() if sum(one) <= last] if most else []:
            numbers = ring.numbers((first, many), cells)
            if len(numbers) == 2:
                parts = [frozenset(cell for cell in cells if ring.told(ring.lows[cell], (first, many)) == number)
                         for number in numbers]
                below, above = [self.all_trees(ring, part, last, most - 1) for part in parts]
                found += [("ask", first, many, one, other) for one in below for other in above]
        return found

    def test_all_trees(self):
        for last, most in ((1, 1), (2, 2), (3, 2)):
            ring = Ring(QUARTERS, last)
            trees = self.all_trees(ring, ring.cells, last, most)
            self.assertGreaterEqual(len(trees), last)
            for tree in trees:
                thing = ("plan", QUARTERS, [], last, tree)
                self.check(thing, True)
                # The answers exchanged, the last ask left out, or an ask more.
                if tree[3] != tree[4]:
                    exchanged = ("plan", QUARTERS, [], last, tree[:3] + (tree[4], tree[3]))
                    self.check(exchanged, verdict(exchanged))
                self.check(("plan", QUARTERS, [], last, tree[:3] + (SURE, SURE)), most == 1)
                more = ("ask", *tree[1:3], tree, tree)
                self.check(("plan", QUARTERS, [], last, more), False)
            # Trees with an ask more than needed in the worst case.
            for tree in self.all_trees(ring, ring.cells, last, most + 1):
                self.check(("plan", QUARTERS, [], last, tree), tree in trees)

    def test_a_chain_of_asks(self):
        chain = ("ask", 0, 1, ("ask", 0, 2, ("ask", 0, 3, SURE, SURE), SURE), SURE)
        thing = ("plan", QUARTERS, [], 3, chain)
        self.check(thing, False)
        self.check(thing, verdict(thing))
        # For three cells it takes two asks anyway.
        self.check(("plan", QUARTERS, [], 2, ("ask", 0, 1, ("ask", 0, 2, SURE, SURE), SURE)), True)

    def test_other_last_days(self):
        tree = plan_paper(Ledger.of(QUARTERS), 3)[4]
        # From day 4 on all points are there again.
        for last in range(201):
            self.check(("plan", QUARTERS, [], last, tree), last >= 3)
        for last in (-1, 201, BIGGEST, None, True, "3", (3,), [3], 3.0):
            self.check(("plan", QUARTERS, [], last, tree), False)
        self.check(("plan", QUARTERS, [], False, SURE), False)
        self.check(("plan", QUARTERS, [], 0, SURE), True)

    def test_where_no_cut_is_left(self):
        self.check(("plan", THREE, [say(0, 2)], 0, SURE), False)
        self.check(("plan", THREE, [say(0, 2)], 3, SURE), False)

    def test_an_ask_about_what_is_sure(self):
        # The stretch of four days is told 1 by every cut, and one quarter less three quarters was asked already.
        for first, many in ((0, 4), (4, 8)):
            tree = ("ask", first, many, SURE, SURE)
            self.check(("plan", QUARTERS, [say(0, 0), say(1, 0), say(2, 0)], 12, tree), False)
        self.check(("plan", QUARTERS, [say(0, 0), say(1, 0), say(2, 0)], 12, SURE), True)

    def test_up_to_200_days(self):
        drawn = random.Random(152)
        for _ in range(3):
            ledger = Ledger.of([("entry", 0, LAST, draw_entry(drawn, 3, 10 ** 6)[3])])
            thing = plan_paper(ledger, 200)
            self.check(thing, True)
            self.check(thing[:3] + (199, thing[4]), holds(plan_paper(ledger, 199)[:4] + (thing[4],)))
            self.check(thing[:3] + (100, thing[4]), False)


class Aparts(Checks):
    def test_by_hand(self):
        none, some = [], [say(0, 0)]
        self.check(("apart", THREE, none, some, say(0, 1)), True)
        self.check(("apart", THREE, some, none, say(0, 1)), False)
        self.check(("apart", THREE, none, some, say(0, 0)), False)
        self.check(("apart", THREE, none, some, say(0, 2)), False)
        self.check(("apart", THREE, none, [say(0, 2)], say(0, 0)), True)
        self.check(("apart", THREE, [say(0, 2)], none, say(0, 0)), False)
        self.check(("apart", THREE, [say(0, 2)], [say(0, 2)], say(0, 0)), False)
        self.check(("apart", THREE, some, some, say(1, 1)), False)
        for statement in [pair[0] for pair in NOT_ITEMS] + THREE + [[say(0, 1)], list(say(0, 1)), (say(0, 1),)]:
            self.check(("apart", THREE, none, some, statement), False)
        for wrong in ((), None, (say(0, 0),), [None], THREE):
            self.check(("apart", THREE, wrong, some, say(0, 1)), False)
            self.check(("apart", THREE, none, wrong, say(0, 1)), False)


class Bent(Checks):
    """Correct papers with any one part bent are accepted exactly if they are still correct."""

    def test_small_papers(self):
        accepted = 0
        for thing in correct_papers():
            accepted += self.check_bent(thing)
        self.assertGreater(accepted, 60)

    def test_drawn_papers(self):
        drawn = random.Random(153)
        names = []
        accepted = 0
        for _ in range(60):
            entries = draw_entries(drawn, 5, most=2)
            one, other = [Ledger.of(entries + draw_told(drawn, entries, 5, drawn.randint(0, 3), others=0.5))
                          for _ in range(2)]
            written = [paper(one), drop_paper(one), apart_paper(one, other)]
            if left(one):
                written += [record_paper(one), plan_paper(one, drawn.randint(0, 6))]
            thing = drawn.choice([one for one in written if one])
            names.append(thing[0])
            accepted += self.check_bent(thing)
        self.assertGreater(accepted, 300)
        for name in ("fits", "clash", "drop", "record", "plan", "apart"):
            self.assertGreater(names.count(name), 1, name)

    def test_two_parts_bent(self):
        drawn = random.Random(154)
        for thing in correct_papers():
            once = list(bends(thing))
            for bent in drawn.sample(once, min(25, len(once))):
                if isinstance(bent, (list, tuple)):
                    twice = list(bends(bent))
                    for again in drawn.sample(twice, min(15, len(twice))):
                        expected = verdict(again)
                        if expected is not None:
                            self.check(again, expected)


if __name__ == "__main__":
    unittest.main()
