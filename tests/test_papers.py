import inspect
import random
import unittest

from plain import draw_entries, draw_entry, draw_ratio, fraction, ratio
from ring import by_number, draw_ledger, draw_told, items_of, moved, rewritten, ring_of, with_integers
from samples import LAST, NOT_INTEGERS, THIRDS, check_raises, state
from verdict import verdict

from onecut import papers as module
from onecut.checker import holds
from onecut.clashes import clash, repair
from onecut.compare import joined, joint_clash, parting
from onecut.entries import amount, exact, point
from onecut.errors import BadDay, NothingLeft, Unlike
from onecut.far import count_apart, count_unsure, first_apart, first_total, first_unsure
from onecut.ledger import Ledger
from onecut.left import average, best, cut_for, left, numbers, together
from onecut.papers import apart_paper, drop_paper, paper, plan_paper, record_paper
from onecut.records import needed, plan, record

DAYS = 9
PARAMETERS = {
    "paper": ["ledger"],
    "drop_paper": ["ledger"],
    "record_paper": ["ledger"],
    "plan_paper": ["ledger", "last"],
    "apart_paper": ["one", "other"],
}


def sample():
    """The ledger of the document's example, with a number left out."""
    ledger = Ledger.of([("statement", 0, 1, 0), ("statement", 0, 1, 7), ("entry", 0, 3, THIRDS)])
    ledger.drop(1)
    return ledger


def nothing_left():
    return Ledger.of([("entry", 0, 3, THIRDS), ("statement", 0, 1, 2)])


def all_papers(ledger):
    """All papers about one ledger that can be written."""
    written = [paper(ledger), drop_paper(ledger)]
    if left(ledger):
        written += [record_paper(ledger), plan_paper(ledger, 7)]
    return written


class Interface(unittest.TestCase):
    def test_names_of_parameters(self):
        for name, parameters in PARAMETERS.items():
            function = getattr(module, name)
            self.assertEqual(list(inspect.signature(function).parameters), parameters)
            self.assertEqual(function.__module__, "onecut.papers")

    def test_calls_by_name(self):
        ledger = sample()
        entries = [("entry", 0, 3, THIRDS)]
        self.assertEqual(paper(ledger=ledger), ("fits", entries, [("statement", 0, 1, 0)], (0, 1)))
        self.assertEqual(drop_paper(ledger=ledger), ("drop", entries, [("statement", 0, 1, 0)], [], (0, 1)))
        self.assertEqual(record_paper(ledger=ledger)[:3], ("record", entries, [("statement", 0, 1, 0)]))
        self.assertEqual(plan_paper(last=1, ledger=ledger), ("plan", entries, [("statement", 0, 1, 0)], 1, ("sure",)))
        self.assertEqual(apart_paper(other=ledger, one=Ledger.of(entries)),
                         ("apart", entries, [], [("statement", 0, 1, 0)], ("statement", 0, 1, 1)))

    def test_lists_are_new(self):
        for ledger in (sample(), nothing_left(), Ledger()):
            before = state(ledger)
            for write in (paper, drop_paper, lambda one: apart_paper(one, Ledger.of([("entry", 0, 3, THIRDS)]))):
                if write not in (paper, drop_paper) and not len(ledger):
                    continue
                first = write(ledger)
                kept = repr(first)
                for part in first:
                    if isinstance(part, list):
                        part.append(None)
                self.assertEqual(repr(write(ledger)), kept)
                lists = [part for part in write(ledger) if isinstance(part, list)]
                self.assertEqual(len({id(part) for part in lists}), len(lists))
            self.assertEqual(state(ledger), before)


class Papers(unittest.TestCase):
    """Each kind of paper over drawn ledgers: its parts, and the verdicts on it."""

    def draw(self, seed, times, **more):
        drawn = random.Random(seed)
        for _ in range(times):
            ledger = draw_ledger(drawn, DAYS, **more)
            before = state(ledger)
            entries = [item for item in items_of(ledger) if item[0] == "entry"]
            yield drawn, ledger, entries, list(by_number(ledger).values())
            self.assertEqual(state(ledger), before)

    def check(self, thing):
        self.assertIs(holds(thing), True)
        self.assertIs(verdict(thing), True)

    def test_paper(self):
        names = []
        for _, ledger, entries, statements in self.draw(161, 200, others=0.4):
            found = paper(ledger)
            if left(ledger):
                self.assertEqual(found, ("fits", entries, statements, left(ledger)[0][0]))
            else:
                chosen = [by_number(ledger)[number] for number in clash(ledger)]
                self.assertEqual(found, ("clash", entries, chosen))
            self.check(found)
            names.append(found[0])
        self.assertGreater(names.count("fits"), 20)
        self.assertGreater(names.count("clash"), 20)

    def test_drop_paper(self):
        sizes = []
        for _, ledger, entries, statements in self.draw(162, 200, others=0.5):
            dropped, cut = repair(ledger)
            indexes = [list(by_number(ledger)).index(number) for number in dropped]
            found = drop_paper(ledger)
            self.assertEqual(found, ("drop", entries, statements, indexes, cut))
            self.check(found)
            sizes.append(len(indexes))
        for size in (0, 1, 2):
            self.assertGreater(sizes.count(size), 5)

    def test_record_paper(self):
        for _, ledger, entries, statements in self.draw(163, 200, others=0.05):
            if left(ledger):
                self.assertEqual(record_paper(ledger), ("record", entries, statements, record(ledger)))
                self.check(record_paper(ledger))
            else:
                check_raises(self, NothingLeft, {}, record_paper, ledger)

    def test_plan_paper(self):
        for drawn, ledger, entries, statements in self.draw(164, 150, others=0.05):
            last = drawn.choice((0, 1, drawn.randint(0, 15)))
            if left(ledger):
                self.assertEqual(plan_paper(ledger, last), ("plan", entries, statements, last, plan(ledger, last)))
                self.check(plan_paper(ledger, last))
            else:
                check_raises(self, NothingLeft, {}, plan_paper, ledger, last)

    def test_apart_paper(self):
        found = []
        for drawn, ledger, entries, statements in self.draw(165, 250, others=0.05):
            other = Ledger.of(draw_told(drawn, entries, DAYS, drawn.randint(0, 5), others=0.05))
            for item in rewritten(drawn, entries, DAYS):
                other.add(item)
            for one, two in ((ledger, other), (other, ledger), (ledger, ledger.copy())):
                thing = apart_paper(one, two)
                parted = parting(one, two)
                if parted is None:
                    self.assertIsNone(thing)
                    found.append(None)
                    continue
                statement, which = parted
                first, second = (one, two) if which == 0 else (two, one)
                expected = ("apart", one.entries(), first.statements(), second.statements(), statement)
                self.assertEqual(thing, expected)
                self.assertIn(statement[3], numbers(first, statement[1:3]))
                self.check(thing)
                found.append(which)
        for which in (0, 1, None):
            self.assertGreater(found.count(which), 20)

    def test_order_of_numbers(self):
        ledger = Ledger()
        items = [("statement", 2, 1, 0), ("entry", 2, 1, ((1, 3),)), ("statement", 1, 1, 0), ("entry", 0, 2, ((1, 3),)),
                 ("statement", 0, 1, 0), ("statement", 1, 1, 0)]
        for item in items:
            ledger.add(item)
        entries, statements = items[1:4:2], items[0:6:2] + items[5:]
        self.assertEqual(drop_paper(ledger), ("drop", entries, statements, [0], (0, 1)))
        self.assertEqual(paper(ledger), ("clash", entries, items[0:6:2]))
        ledger.drop(0)
        self.assertEqual(paper(ledger), ("fits", entries, statements[1:], (0, 1)))
        ledger.change(2, ("statement", 0, 1, 1))
        self.assertEqual(drop_paper(ledger), ("drop", entries, [("statement", 0, 1, 1)] + statements[2:], [0], (0, 1)))

    def test_24_statements(self):
        drawn = random.Random(166)
        for _ in range(15):
            entries = [draw_entry(drawn, 30, under=10 ** 6) for _ in range(6)]
            for others in (0, 0.6):
                statements = draw_told(drawn, entries, 30, 24, others=others, wrong=0)
                ledger = Ledger.of(statements + entries)
                for thing in all_papers(ledger):
                    self.check(thing)
        parts = Ledger.of([("entry", 0, 24, ((1, 24),))] + [("statement", day, 1, 0) for day in range(24)])
        self.check(paper(parts))
        self.assertEqual(len(paper(parts)[2]), 24)
        self.assertEqual(drop_paper(parts)[3:], ([23], (0, 1)))

    def test_200_days(self):
        drawn = random.Random(167)
        for last in (199, 200):
            amounts = tuple(draw_ratio(drawn, 10 ** 6, 10 ** 6) for _ in range(4))
            self.check(plan_paper(Ledger.of([("entry", 0, LAST, amounts)]), last))


class Errors(unittest.TestCase):
    def test_last_days(self):
        for ledger in (sample(), nothing_left()):
            before = state(ledger)
            for last in NOT_INTEGERS + (-1, 201, LAST, 10 ** 100 - 1):
                check_raises(self, BadDay, {}, plan_paper, ledger, last)
                check_raises(self, BadDay, {}, plan_paper, last=last, ledger=ledger)
            self.assertEqual(state(ledger), before)

    def test_nothing_left(self):
        ledger = nothing_left()
        before = state(ledger)
        check_raises(self, NothingLeft, {}, record_paper, ledger)
        check_raises(self, NothingLeft, {}, plan_paper, ledger, 0)
        self.assertEqual(state(ledger), before)
        self.assertEqual(paper(ledger)[0], "clash")
        self.assertEqual(drop_paper(ledger)[3:], ([0], (0, 1)))

    def test_unlike(self):
        one = sample()
        other = Ledger.of([("entry", 0, 2, THIRDS)])
        before = [state(one), state(other)]
        check_raises(self, Unlike, {"day": 2}, apart_paper, one, other)
        check_raises(self, Unlike, {"day": 2}, apart_paper, other, one)
        check_raises(self, Unlike, {"day": 0}, apart_paper, nothing_left(), Ledger())
        self.assertEqual([state(one), state(other)], before)


class WherePapersStayTheSame(unittest.TestCase):
    def test_later_days(self):
        drawn = random.Random(171)
        for _ in range(100):
            ledger = Ledger.of(items_of(draw_ledger(drawn, DAYS, others=0.4)))
            days = drawn.choice((1, 12, 10 ** 29, LAST - DAYS))
            later = Ledger.of(moved(items_of(ledger), days))
            first, second = paper(ledger), paper(later)
            self.assertEqual(second, (first[0], moved(first[1], days), moved(first[2], days)) + first[3:])
            first, second = drop_paper(ledger), drop_paper(later)
            self.assertEqual(second, (first[0], moved(first[1], days), moved(first[2], days)) + first[3:])
            self.assertEqual([holds(paper(later)), holds(drop_paper(later))], [True, True])
            if left(ledger):
                self.assertEqual(record_paper(later)[3], moved(record_paper(ledger)[3], days))
                self.assertTrue(holds(record_paper(later)))

    def test_whole_rounds_later(self):
        drawn = random.Random(172)
        for _ in range(60):
            amounts = tuple(draw_ratio(drawn, 12) for _ in range(drawn.randint(1, 4)))
            entry = ("entry", 0, LAST, amounts)
            statements = draw_told(drawn, [entry], 20, drawn.randint(0, 8), others=0.3)
            # After that many rounds, the sums have grown by an integer.
            rounds = len(amounts) * exact([entry], (0, len(amounts)))[1] * 10 ** drawn.randint(0, 25)
            ledger, later = Ledger.of([entry] + statements), Ledger.of([entry] + moved(statements, rounds))
            self.assertEqual([left(later), clash(later), repair(later)], [left(ledger), clash(ledger), repair(ledger)])
            self.assertEqual(paper(later), paper(ledger)[:2] + (moved(paper(ledger)[2], rounds),) + paper(ledger)[3:])
            self.assertEqual(drop_paper(later)[3:], drop_paper(ledger)[3:])
            self.assertTrue(all(holds(thing) for thing in all_papers(later)))
            if left(ledger):
                self.assertEqual(plan(later, 20), plan(ledger, 20))
                self.assertEqual(record(later), moved(record(ledger), rounds))

    def test_written_otherwise(self):
        drawn = random.Random(173)
        for _ in range(60):
            entries = draw_entries(drawn, DAYS, most=3)
            statements = draw_told(drawn, entries, DAYS, 5, others=0.2)
            ledger, twin = Ledger.of(entries + statements), Ledger.of(rewritten(drawn, entries, DAYS) + statements)
            for first, second in zip(all_papers(ledger), all_papers(twin)):
                self.assertEqual(first[2:], second[2:])
                # A paper about the one ledger is one about the other, too.
                self.assertTrue(holds(first[:1] + (twin.entries(),) + first[2:]))

    def test_integers_added(self):
        drawn = random.Random(174)
        for _ in range(60):
            entries = [("entry", 1, 6, ((1, 3), (2, 7)))] + draw_entries(drawn, DAYS, most=3)
            ledger = Ledger.of(entries + draw_told(drawn, entries, DAYS, 5, others=0.2))
            twin = Ledger.of(with_integers(items_of(ledger), drawn.choice((-4, 1, 9))))
            self.assertEqual(paper(twin)[3:], paper(ledger)[3:])
            self.assertEqual(drop_paper(twin)[3:], drop_paper(ledger)[3:])
            self.assertEqual([thing[0] for thing in all_papers(twin)], [thing[0] for thing in all_papers(ledger)])
            self.assertTrue(all(holds(thing) for thing in all_papers(twin)))


class AfterAnyDeeds(unittest.TestCase):
    """A ledger answers in every function as a new one of its items does, numbers of items apart."""

    def answers(self, ledger, other):
        """What all functions answer, with numbers of statements as their places among the statements."""
        order = list(by_number(ledger))
        entries = ledger.entries()
        found = [left(ledger), numbers(ledger, (2, 5)), cut_for(ledger, (2, 5), 1), average(ledger, (1, 3)),
                 together(ledger, [(0, 1), (4, 3)]), best(ledger, [((0, 2), 1, 5), ((3, 1), 0, 4)])]
        found += [amount(entries, 3), point(entries, 7), exact(entries, (1, 7)), len(ledger), repr(ledger)]
        found.append([order.index(number) for number in clash(ledger) or ()])
        found.append(([order.index(number) for number in repair(ledger)[0]], repair(ledger)[1]))
        if left(ledger):
            found += [record(ledger), [order.index(number) for number in needed(ledger)], plan(ledger, DAYS)]
        found += [joined(ledger, other), parting(ledger, other), parting(other, ledger), apart_paper(ledger, other)]
        jointly = joint_clash(ledger, other)
        found.append(jointly and ([order.index(number) for number in jointly[0]], jointly[1]))
        found += [first_unsure(ledger, 1), count_unsure(ledger, 1, 0, 20), first_apart(ledger, (1, 3), (3, 4)),
                  count_apart(ledger, (1, 3), (3, 4), 0, 20), first_total(ledger, (1, 2), 2)]
        return found + all_papers(ledger)

    def test_after_any_deeds(self):
        drawn = random.Random(175)
        for _ in range(80):
            ledger = Ledger()
            for _ in range(drawn.randint(0, 25)):
                self.do_any(drawn, ledger)
            other = Ledger.of(ledger.entries() + draw_told(drawn, ledger.entries(), DAYS, 3, others=0.1))
            new = Ledger.of(items_of(ledger))
            before = state(ledger)
            self.assertEqual(self.answers(ledger, other), self.answers(new, other))
            self.assertEqual(self.answers(ledger, other), self.answers(ledger.copy(), other.copy()))
            self.assertEqual(state(ledger), before)
            self.assertEqual(ledger, new)

    def do_any(self, drawn, ledger):
        present = [number for number, _ in ledger.numbered()]
        way = drawn.random()
        entries = ledger.entries()
        if way < 0.25 and present:
            ledger.drop(drawn.choice(present))
        elif way < 0.45 and by_number(ledger):
            ledger.change(drawn.choice(list(by_number(ledger))), draw_told(drawn, entries, DAYS, 1)[0])
        elif way < 0.65 and len(entries) < 6:
            ledger.add(draw_entry(drawn, DAYS))
        elif len(ledger.statements()) < 24:
            ledger.add(draw_told(drawn, entries, DAYS, 1)[0])


class Promises(unittest.TestCase):
    def test_plans_played_by_cuts(self):
        # Whatever cut answers, in the end all stretches of the days up to the last one are sure.
        drawn = random.Random(176)
        for _ in range(30):
            ledger = draw_ledger(drawn, DAYS, others=0)
            if not left(ledger):
                continue
            last = drawn.randint(0, 12)
            ring = ring_of(ledger, 12)
            for cell in ring.left:
                tree = plan_paper(ledger, last)[4]
                cells = ring.left
                while tree != ("sure",):
                    _, first, many, lesser, greater = tree
                    possible = ring.numbers((first, many), cells)
                    number = ring.told(ring.lows[cell], (first, many))
                    cells = cells & ring.telling(("statement", first, many, number))
                    tree = lesser if number == possible[0] else greater
                for first, many in ring.stretches():
                    if first + many <= last:
                        self.assertEqual(len(ring.numbers((first, many), cells)), 1)

    def test_statements_that_are_possible_leave_some_cut(self):
        drawn = random.Random(177)
        for _ in range(60):
            entries = draw_entries(drawn, DAYS, under=drawn.choice((6, 10 ** 6)))
            ledger = Ledger.of(entries)
            while len(ledger.statements()) < 24:
                first = drawn.randrange(DAYS)
                stretch = (first, drawn.randint(1, 20))
                ledger.add(("statement", *stretch, drawn.choice(numbers(ledger, stretch))))
                self.assertIsNone(clash(ledger))
            self.assertEqual(paper(ledger)[0], "fits")
            self.assertEqual(repair(ledger)[0], ())
            self.assertTrue(all(holds(thing) for thing in all_papers(ledger)))

    def test_averages(self):
        drawn = random.Random(178)
        for _ in range(60):
            ledger = Ledger.of(draw_entries(drawn, DAYS))
            stretch = (drawn.randrange(DAYS), drawn.randint(1, DAYS))
            self.assertEqual(average(ledger, stretch), exact(ledger.entries(), stretch))
            self.assertEqual(ratio(fraction(average(ledger, stretch))), average(ledger, stretch))


if __name__ == "__main__":
    unittest.main()
