import inspect
import itertools
import random
import unittest
from fractions import Fraction
from math import floor

from plain import Plain, draw_entries, draw_items, draw_stretch, fraction, ratio
from samples import BIG, LAST, NOT_CUTS, NOT_STRETCHES, THIRDS, check_raises, check_untouched, state

from onecut import left as module
from onecut.entries import exact, point
from onecut.errors import BadCut, BadStretch
from onecut.kinds import is_cut
from onecut.ledger import Ledger
from onecut.left import allowed, average, best, cut_for, left, numbers, together, told
from onecut.spans import arc, has, is_cuts, length

ALL = [((0, 1), (1, 1))]
DAYS = 10
STRETCHES = [(first, many) for first in range(DAYS) for many in range(1, DAYS - first + 1)]
PARAMETERS = {
    "allowed": ["entries", "statement"],
    "left": ["ledger"],
    "told": ["ledger", "cut", "stretch"],
    "numbers": ["ledger", "stretch"],
    "cut_for": ["ledger", "stretch", "number"],
    "average": ["ledger", "stretch"],
    "together": ["ledger", "stretches"],
    "best": ["ledger", "wishes"],
}


def sample():
    """The ledger of the document's example."""
    return Ledger.of([("entry", 0, 3, THIRDS), ("statement", 0, 1, 0)])


def nothing_left():
    return Ledger.of([("entry", 0, 3, THIRDS), ("statement", 0, 1, 2)])


def draw_number(drawn, ledger, stretch):
    """Often a neighbour of the exact amount, and sometimes another number."""
    return floor(fraction(exact(ledger.entries(), stretch))) + drawn.choice((0, 0, 0, 1, 1, 1, 2, -1))


def draw_wishes(drawn, ledger, most=12):
    wishes = []
    for _ in range(drawn.randint(0, most)):
        stretch = draw_stretch(drawn, DAYS)
        weight = drawn.choice((1, 1, 2, 3, drawn.randint(1, 10 ** 9)))
        wishes.append((stretch, draw_number(drawn, ledger, stretch), weight))
    return wishes


def moved(items, days):
    return [(kind, first + days, many, last) for kind, first, many, last in items]


class Interface(unittest.TestCase):
    def test_names_of_parameters(self):
        for name, parameters in PARAMETERS.items():
            function = getattr(module, name)
            self.assertEqual(list(inspect.signature(function).parameters), parameters)
            self.assertEqual(function.__module__, "onecut.left")

    def test_calls_by_name(self):
        ledger = sample()
        self.assertEqual(allowed(statement=("statement", 1, 1, 1), entries=ledger.entries()), [((1, 3), (2, 3))])
        self.assertEqual(left(ledger=ledger), [((0, 1), (2, 3))])
        self.assertEqual(told(stretch=(2, 3), cut=(0, 1), ledger=ledger), 1)
        self.assertEqual(numbers(stretch=(1, 1), ledger=ledger), [0, 1])
        self.assertEqual(cut_for(number=1, stretch=(1, 1), ledger=ledger), (1, 3))
        self.assertEqual(average(stretch=(1, 1), ledger=ledger), (1, 2))
        self.assertEqual(together(stretches=[(1, 1), (2, 1)], ledger=ledger), [(0, 1), (1, 0)])
        self.assertEqual(best(wishes=[((1, 1), 1, 5)], ledger=ledger), (5, (1, 3)))


class CutByCut(unittest.TestCase):
    """Each function against a plain reckoning over all days and all cuts."""

    def draw(self, seed, times):
        drawn = random.Random(seed)
        for _ in range(times):
            items = draw_items(drawn, DAYS)
            ledger = Ledger.of(items)
            before = state(ledger)
            yield drawn, ledger, Plain(items, DAYS)
            self.assertEqual(state(ledger), before)

    def test_allowed(self):
        for _, ledger, plain in self.draw(31, 60):
            for stretch in STRETCHES:
                exact_amount = plain.exact(stretch)
                for number in range(floor(exact_amount) - 1, floor(exact_amount) + 3):
                    statement = ("statement", *stretch, number)
                    cuts = check_untouched(self, allowed, ledger.entries(), statement)
                    self.assertTrue(is_cuts(cuts))
                    self.assertEqual(cuts, plain.spans(cut for cut in plain.cuts if plain.tells(cut, [statement])))

    def test_left(self):
        sizes = []
        for _, ledger, plain in self.draw(32, 400):
            cuts = left(ledger)
            self.assertTrue(is_cuts(cuts))
            self.assertEqual(cuts, plain.spans(plain.left))
            sizes.append(len(cuts))
        self.assertGreater(sizes.count(0), 5)
        self.assertGreater(sizes.count(1), 5)
        self.assertGreater(sizes.count(2), 5)

    def test_told(self):
        for drawn, ledger, plain in self.draw(33, 60):
            under = drawn.randint(1, 99)
            for cut in drawn.sample(plain.cuts, min(9, len(plain.cuts))) + [Fraction(under - 1, under)]:
                for stretch in STRETCHES:
                    self.assertEqual(told(ledger, ratio(cut), stretch), plain.told(cut, stretch))

    def test_numbers_cut_for_and_average(self):
        for drawn, ledger, plain in self.draw(34, 150):
            for stretch in drawn.sample(STRETCHES, 12):
                possible = numbers(ledger, stretch)
                self.assertEqual(possible, plain.numbers(stretch))
                exact_amount = floor(plain.exact(stretch))
                for number in range(exact_amount - 1, exact_amount + 3):
                    cut = cut_for(ledger, stretch, number)
                    self.assertEqual(cut, plain.cut_for(stretch, number))
                    self.assertEqual(cut is not None, number in possible)
                expected = plain.average(stretch)
                self.assertEqual(average(ledger, stretch), None if expected is None else ratio(expected))

    def test_together(self):
        for drawn, ledger, plain in self.draw(35, 400):
            stretches = [draw_stretch(drawn, DAYS) for _ in range(drawn.randint(1, 6))]
            rows = check_untouched(self, together, ledger, stretches)
            self.assertEqual(rows, plain.together(stretches))

    def test_best(self):
        for drawn, ledger, plain in self.draw(36, 400):
            wishes = draw_wishes(drawn, ledger)
            self.assertEqual(check_untouched(self, best, ledger, wishes), plain.best(wishes))

    def test_cells_are_wide_enough_for_the_plain_reckoning(self):
        # All points are among the plain reckoning's cuts.
        for _, ledger, plain in self.draw(37, 60):
            for day in range(DAYS + 1):
                self.assertIn(fraction(point(ledger.entries(), day)), plain.cuts)


class ByHand(unittest.TestCase):
    def test_points_of_the_document(self):
        thirds = [("entry", 0, LAST, THIRDS)]
        self.assertEqual(allowed(thirds, ("statement", 1, 1, 1)), [((1, 3), (2, 3))])
        self.assertEqual(allowed(thirds, ("statement", 1, 1, 0)), [((0, 1), (1, 3)), ((2, 3), (1, 1))])
        self.assertEqual(allowed(thirds, ("statement", 0, 3, 1)), ALL)
        self.assertEqual([allowed(thirds, ("statement", 0, 3, number)) for number in (0, 2)], [[], []])
        self.assertEqual([allowed(thirds, ("statement", 1, 1, number)) for number in (-1, 2)], [[], []])

    def test_negative_amounts(self):
        minus = [("entry", 0, 9, ((-1, 3),))]
        self.assertEqual(allowed(minus, ("statement", 0, 1, -1)), [((0, 1), (1, 3))])
        self.assertEqual(allowed(minus, ("statement", 0, 1, 0)), [((1, 3), (1, 1))])
        ledger = Ledger.of(minus)
        self.assertEqual([told(ledger, cut, (0, 1)) for cut in ((0, 1), (1, 4), (1, 3), (99, 100))], [-1, -1, 0, 0])
        self.assertEqual(numbers(ledger, (0, 2)), [-1, 0])
        self.assertEqual(average(ledger, (0, 2)), (-2, 3))

    def test_no_entries(self):
        ledger = Ledger.of([("statement", 3, 4, 0)])
        self.assertEqual(left(ledger), ALL)
        self.assertEqual([numbers(ledger, (0, LAST)), average(ledger, (0, LAST))], [[0], (0, 1)])
        self.assertEqual([cut_for(ledger, (1, 1), number) for number in (-1, 0, 1)], [None, (0, 1), None])
        ledger.add(("statement", 0, 1, 1))
        self.assertEqual(left(ledger), [])

    def test_empty_ledger(self):
        self.assertEqual(left(Ledger()), ALL)
        self.assertEqual(best(Ledger(), []), (0, (0, 1)))
        self.assertEqual(together(Ledger(), [(0, 1), (0, 1)]), [(0, 0)])

    def test_statements_that_no_cut_tells(self):
        for number in (2, -1, BIG, -BIG):
            ledger = sample()
            ledger.add(("statement", 0, 1, number))
            self.assertEqual(left(ledger), [])

    def test_no_cut_left(self):
        ledger = nothing_left()
        self.assertEqual(left(ledger), [])
        self.assertEqual([numbers(ledger, (0, 1)), numbers(ledger, (0, 3))], [[], []])
        self.assertEqual([cut_for(ledger, (0, 1), number) for number in (0, 1, 2)], [None] * 3)
        self.assertEqual([average(ledger, (0, 1)), average(ledger, (0, 3))], [None, None])
        self.assertEqual([together(ledger, [(0, 1)]), together(ledger, [(0, 3), (1, 1)])], [[], []])
        self.assertEqual([best(ledger, []), best(ledger, [((0, 1), 0, 1)])], [None, None])
        self.assertEqual(told(ledger, (2, 3), (0, 1)), 1)

    def test_told_whatever_the_statements(self):
        ledger = sample()
        self.assertEqual([told(ledger, (2, 3), (0, 1)), told(ledger, (1, 3), (0, 1))], [1, 0])

    def test_round_the_ring(self):
        # The cuts left go on from below 1 to 0.
        ledger = Ledger.of([("entry", 0, 9, ((1, 4),)), ("statement", 1, 2, 0)])
        self.assertEqual(left(ledger), [((0, 1), (1, 4)), ((3, 4), (1, 1))])
        self.assertEqual(cut_for(ledger, (0, 1), 1), (3, 4))
        self.assertEqual(cut_for(ledger, (0, 1), 0), (0, 1))
        self.assertEqual(average(ledger, (0, 1)), (1, 2))
        self.assertEqual(best(ledger, [((0, 1), 1, 1)]), (1, (3, 4)))

    def test_best_takes_the_least_cut(self):
        ledger = Ledger.of([("entry", 0, 9, THIRDS)])
        self.assertEqual(best(ledger, [((0, 1), 0, 7), ((0, 1), 1, 7)]), (7, (0, 1)))
        self.assertEqual(best(ledger, [((0, 1), 1, 7), ((1, 1), 1, 7)]), (7, (1, 3)))
        self.assertEqual(best(ledger, [((0, 1), 2, 10 ** 9), ((1, 1), -1, 10 ** 9)]), (0, (0, 1)))
        self.assertEqual(best(ledger, [((2, 1), 1, 1), ((2, 1), 1, 10 ** 9), ((2, 1), 1, 1)]), (10 ** 9 + 2, (0, 1)))
        ledger.add(("statement", 2, 1, 0))
        self.assertEqual(best(ledger, []), (0, (1, 3)))

    def test_together_without_duplicates(self):
        ledger = Ledger.of([("entry", 0, 9, THIRDS)])
        self.assertEqual(together(ledger, [(0, 1)]), [(0,), (1,)])
        self.assertEqual(together(ledger, [(0, 1)] * 6), [(0,) * 6, (1,) * 6])
        self.assertEqual(together(ledger, [(0, 1), (1, 1), (2, 1)]), [(0, 0, 1), (0, 1, 0), (1, 0, 0)])
        self.assertEqual(together(ledger, [(0, 3), (3, 3)]), [(1, 1)])


class Promises(unittest.TestCase):
    def test_every_telling_is_given_by_a_cut(self):
        # All tellings of single days whose sums are everywhere less than one off are those of the cuts.
        drawn = random.Random(41)
        for _ in range(25):
            entries = draw_entries(drawn, 5, most=3)
            plain = Plain(entries, 5)
            days = [(day, 1) for day in range(5)]
            around = [(floor(plain.exact(day)), floor(plain.exact(day)) + 1) for day in days]
            tellings = set()
            for row in itertools.product(*around):
                sums = [sum(row[:day]) - plain.sums[day] for day in range(6)]
                if max(sums) - min(sums) < 1:
                    tellings.add(row)
            self.assertEqual(together(Ledger.of(entries), days), sorted(tellings))

    def test_averages_of_adjoining_stretches_add_up(self):
        drawn = random.Random(42)
        for _ in range(150):
            ledger = Ledger.of(draw_items(drawn, DAYS))
            if not left(ledger):
                continue
            for _ in range(10):
                start, middle, end = sorted(drawn.sample(range(DAYS + 1), 3))
                parts = (average(ledger, (start, middle - start)), average(ledger, (middle, end - middle)))
                self.assertEqual(average(ledger, (start, end - start)), ratio(sum(map(fraction, parts))))

    def test_the_average_of_all_cuts_is_the_exact_amount(self):
        drawn = random.Random(43)
        for _ in range(100):
            ledger = Ledger.of(draw_entries(drawn, DAYS, under=1000, most=6))
            for _ in range(10):
                stretch = draw_stretch(drawn, DAYS + 3)
                self.assertEqual(average(ledger, stretch), exact(ledger.entries(), stretch))

    def test_possible_statements_leave_some_cut(self):
        drawn = random.Random(44)
        for _ in range(60):
            entries = draw_entries(drawn, DAYS, under=1000, most=6)
            ledger = Ledger.of(entries)
            while len(ledger.statements()) < 24:
                first, many = draw_stretch(drawn, DAYS)
                possible = numbers(ledger, (first, many))
                self.assertTrue(possible)
                ledger.add(("statement", first, many, drawn.choice(possible)))
                self.assertTrue(left(ledger))
            for stretch in STRETCHES:
                self.assertIn(len(numbers(ledger, stretch)), (1, 2))
            # Statements that are dropped or changed to possible ones leave some cut as well.
            numbered = [number for number, item in ledger.walk() if item[0] == "statement"]
            for number in drawn.sample(numbered, 12):
                _, first, many, _ = ledger.drop(number)
                ledger.add(("statement", first, many, drawn.choice(numbers(ledger, (first, many)))))
                self.assertTrue(left(ledger))

    def test_a_number_is_possible_exactly_if_stating_it_leaves_a_cut(self):
        drawn = random.Random(45)
        for _ in range(100):
            ledger = Ledger.of(draw_items(drawn, DAYS))
            stretch = draw_stretch(drawn, DAYS)
            number = draw_number(drawn, ledger, stretch)
            possible = number in numbers(ledger, stretch)
            cut = cut_for(ledger, stretch, number)
            ledger.add(("statement", *stretch, number))
            self.assertEqual(bool(left(ledger)), possible)
            self.assertEqual(left(ledger)[0][0] if possible else None, cut)

    def test_every_number_is_less_than_one_off(self):
        drawn = random.Random(46)
        for _ in range(100):
            ledger = Ledger.of(draw_entries(drawn, DAYS, under=50))
            cut = ratio(Fraction(drawn.randrange(99), 99))
            for stretch in drawn.sample(STRETCHES, 15):
                off = told(ledger, cut, stretch) - fraction(exact(ledger.entries(), stretch))
                self.assertTrue(-1 < off < 1)

    def answers(self, ledger, wishes):
        """All answers of the functions, as far as they can be told apart."""
        stretches = [wish[0] for wish in wishes]
        found = [left(ledger), best(ledger, wishes), together(ledger, stretches[:6])]
        for stretch, number, _ in wishes:
            found.append([numbers(ledger, stretch), cut_for(ledger, stretch, number), average(ledger, stretch)])
            found.append([told(ledger, cut, stretch) for cut in ((0, 1), (1, 3), (BIG - 1, BIG))])
        return found

    def test_only_the_items_present_matter(self):
        drawn = random.Random(47)
        for _ in range(120):
            items = draw_items(drawn, DAYS)
            ledger = Ledger.of(items)
            wishes = draw_wishes(drawn, ledger) or [((0, 1), 0, 1)]
            expected = self.answers(ledger, wishes)
            other = Ledger()
            for item in drawn.sample(items, len(items)):
                number = other.add(drawn.choice([one for one in items if one[0] == item[0]]))
                self.answers(other, wishes)
                if drawn.random() < 0.5:
                    other.change(number, item)
                else:
                    other.drop(number)
                    other.add(item)
            self.assertEqual(self.answers(other, wishes), expected)
            self.assertEqual(self.answers(other.copy(), wishes), expected)
            self.assertEqual(self.answers(ledger, drawn.sample(wishes, len(wishes)))[:2], expected[:2])

    def test_the_same_amounts_in_other_entries(self):
        drawn = random.Random(48)
        for _ in range(60):
            statements = [item for item in draw_items(drawn, DAYS) if item[0] == "statement"]
            one = Ledger.of([("entry", 0, DAYS, ((1, 6), (1, 4))), *statements])
            other = Ledger.of([*statements, ("entry", 0, DAYS, ((1, 12),)), ("entry", 0, DAYS, ((1, 12), (1, 6)))])
            self.assertNotEqual(one, other)
            wishes = draw_wishes(drawn, one) or [((0, 1), 0, 1)]
            self.assertEqual(self.answers(one, wishes), self.answers(other, wishes))


class FarDays(unittest.TestCase):
    def test_moved_to_far_days(self):
        drawn = random.Random(51)
        for _ in range(100):
            items = draw_items(drawn, DAYS)
            plain = Plain(items, DAYS)
            days = drawn.choice((10 ** 29, LAST - DAYS, drawn.randint(0, LAST - DAYS)))
            ledger = Ledger.of(moved(items, days))
            self.assertEqual(left(ledger), plain.spans(plain.left))
            for first, many in drawn.sample(STRETCHES, 9):
                stretch = (first + days, many)
                self.assertEqual(numbers(ledger, stretch), plain.numbers((first, many)))
                expected = plain.average((first, many))
                self.assertEqual(average(ledger, stretch), None if expected is None else ratio(expected))
                cut = drawn.choice(plain.cuts)
                self.assertEqual(told(ledger, ratio(cut), stretch), plain.told(cut, (first, many)))
            wishes = draw_wishes(drawn, Ledger.of(items))
            far = [((first + days, many), number, weight) for (first, many), number, weight in wishes]
            self.assertEqual(best(ledger, far), plain.best(wishes))

    def test_whole_rounds_between(self):
        # Any number of whole rounds of the patterns, all of them together an integer, changes no cut.
        drawn = random.Random(52)
        for _ in range(60):
            amounts = [tuple(ratio(Fraction(drawn.randint(-9, 9), 6)) for _ in range(many)) for many in (1, 2, 3, 4)]
            near = [("entry", 0, 72 + DAYS, row) for row in amounts]
            far = [("entry", 0, LAST, row) for row in amounts]
            rounds = drawn.randint(1, LAST // 72 - 2)
            gained = rounds * fraction(exact(near, (0, 72)))
            self.assertEqual(gained.denominator, 1)
            plain = Plain(near, DAYS)
            for first, many in drawn.sample(STRETCHES, 9):
                number = floor(plain.exact((first, many)))
                moved_on = ("statement", first + 72 * rounds, many, number)
                self.assertEqual(allowed(far, moved_on), allowed(near, ("statement", first, many, number)))
                longer = ("statement", first, many + 72 * rounds, number + int(gained))
                self.assertEqual(allowed(far, longer), allowed(near, ("statement", first, many, number)))
                cut = drawn.choice(plain.cuts)
                expected = plain.told(cut, (first, many))
                self.assertEqual(told(Ledger.of(far), ratio(cut), moved_on[1:3]), expected)
                self.assertEqual(told(Ledger.of(far), ratio(cut), longer[1:3]), expected + gained)

    def test_cut_in_two(self):
        drawn = random.Random(53)
        for _ in range(60):
            ledger = Ledger.of(draw_entries(drawn, LAST, under=10 ** 6, most=6))
            for _ in range(6):
                first, many = draw_stretch(drawn, LAST)
                possible = numbers(ledger, (first, many))
                ledger.add(("statement", first, many, drawn.choice(possible)))
            cut = left(ledger)[-1][0]
            for _ in range(6):
                start, middle, end = sorted(drawn.randint(0, LAST) for _ in range(3))
                if start < middle < end:
                    parts = [(start, middle - start), (middle, end - middle)]
                    whole = (start, end - start)
                    self.assertEqual(told(ledger, cut, whole), sum(told(ledger, cut, part) for part in parts))
                    self.assertIn(told(ledger, cut, whole), numbers(ledger, whole))
                    self.assertIn(tuple(told(ledger, cut, part) for part in parts), together(ledger, parts))
                    averages = [fraction(average(ledger, part)) for part in parts]
                    self.assertEqual(average(ledger, whole), ratio(sum(averages)))

    def test_thirds(self):
        ledger = Ledger.of([("entry", 0, LAST, THIRDS), ("statement", 0, LAST, LAST // 3)])
        self.assertEqual(left(ledger), [((0, 1), (2, 3))])
        self.assertEqual(numbers(ledger, (LAST - 1, 1)), [0])
        self.assertEqual(numbers(ledger, (0, LAST - 2)), [LAST // 3 - 1, LAST // 3])
        self.assertEqual(cut_for(ledger, (0, LAST - 2), LAST // 3), (1, 3))
        self.assertEqual(told(ledger, (2, 3), (0, LAST)), LAST // 3 + 1)

    def test_full_ledgers_with_far_days(self):
        drawn = random.Random(54)
        entries = [("entry", 0, LAST, tuple((drawn.choice((1, -1)), drawn.randint(10 ** 5, 10 ** 6)) for _ in range(4)))
                   for _ in range(6)]
        ledger = Ledger.of(entries)
        for _ in range(24):
            stretch = draw_stretch(drawn, LAST)
            ledger.add(("statement", *stretch, drawn.choice(numbers(ledger, stretch))))
        cuts = left(ledger)
        self.assertTrue(is_cuts(cuts) and cuts)
        cut = cuts[0][0]
        self.assertTrue(is_cut(cut))
        for _, first, many, number in ledger.statements():
            self.assertEqual(told(ledger, cut, (first, many)), number)
            self.assertEqual(numbers(ledger, (first, many)), [number])
            self.assertEqual(cut_for(ledger, (first, many), number), cut)
        wishes = [((first, many), number, 10 ** 9) for _, first, many, number in ledger.statements()][:12]
        self.assertEqual(best(ledger, wishes), (12 * 10 ** 9, cut))


class Cuts(unittest.TestCase):
    def test_returned_cuts_may_be_passed_again(self):
        # Their unders may be far longer than those that callers pass.
        unders = (999983, 999979, 999961, 999959, 999953, 999931)
        entries = [("entry", 0, LAST, tuple((1, under - k) for k in range(4))) for under in unders]
        ledger = Ledger.of([*entries, ("statement", 1, 5, 0)])
        low, high = left(ledger)[0]
        self.assertGreater(high[1], 10 ** 100)
        self.assertTrue(has(left(ledger), low))
        self.assertEqual(told(ledger, low, (1, 5)), 0)
        self.assertEqual(told(ledger, high, (1, 5)), 1)

    def test_arcs_of_points(self):
        drawn = random.Random(55)
        for _ in range(60):
            entries = draw_entries(drawn, DAYS, under=40)
            for first, many in drawn.sample(STRETCHES, 9):
                start, end = point(entries, first), point(entries, first + many)
                number = floor(fraction(exact(entries, (first, many))))
                lesser, greater = [allowed(entries, ("statement", first, many, number + k)) for k in (0, 1)]
                self.assertEqual(lesser, ALL if start == end else arc(start, end))
                self.assertEqual(greater, arc(end, start))
                self.assertEqual(fraction(length(lesser)) + fraction(length(greater)), 1)


class NewLists(unittest.TestCase):
    def test_returned_lists_are_new(self):
        calls = {
            "allowed": lambda ledger: allowed(ledger.entries(), ("statement", 0, 3, 1)),
            "left": left,
            "left of an empty ledger": lambda ledger: left(Ledger()),
            "numbers": lambda ledger: numbers(ledger, (1, 1)),
            "together": lambda ledger: together(ledger, [(1, 1), (2, 1)]),
        }
        for name, call in calls.items():
            with self.subTest(name):
                ledger = sample()
                before = state(ledger)
                first = call(ledger)
                expected = list(first)
                self.assertIs(type(first), list)
                first.append(first.pop(0))
                first.append(None)
                self.assertEqual(call(ledger), expected)
                self.assertEqual(state(ledger), before)

    def test_later_changes_of_the_ledger(self):
        ledger = sample()
        cuts = left(ledger)
        ledger.drop(1)
        self.assertEqual(cuts, [((0, 1), (2, 3))])
        self.assertEqual(left(ledger), ALL)


class Errors(unittest.TestCase):
    def ledgers(self):
        return [Ledger(), sample(), nothing_left()]

    def check(self, used, kind, function, *args, **more):
        before = state(used)
        check_raises(self, kind, {}, function, *args, **more)
        self.assertEqual(state(used), before)

    def test_no_stretch(self):
        for ledger in self.ledgers():
            for thing in NOT_STRETCHES:
                with self.subTest(ledger=ledger, thing=thing):
                    self.check(ledger, BadStretch, told, ledger, (1, 3), thing)
                    self.check(ledger, BadStretch, numbers, ledger, thing)
                    self.check(ledger, BadStretch, cut_for, ledger, thing, 0)
                    self.check(ledger, BadStretch, average, ledger, thing)
                    self.check(ledger, BadStretch, numbers, stretch=thing, ledger=ledger)

    def test_no_stretch_among_several(self):
        for ledger in self.ledgers():
            for thing in NOT_STRETCHES:
                with self.subTest(ledger=ledger, thing=thing):
                    self.check(ledger, BadStretch, together, ledger, [thing])
                    self.check(ledger, BadStretch, together, ledger, [(0, 1)] * 5 + [thing])
                    self.check(ledger, BadStretch, best, ledger, [(thing, 0, 1)])
                    self.check(ledger, BadStretch, best, ledger, [((0, 1), 0, 1)] * 11 + [(thing, 0, 1)])
                    self.check(ledger, BadStretch, best, wishes=[(thing, 0, 1), ((0, 1), 0, 1)], ledger=ledger)

    def test_no_cut(self):
        for ledger in self.ledgers():
            for thing in NOT_CUTS:
                with self.subTest(ledger=ledger, thing=thing):
                    self.check(ledger, BadCut, told, ledger, thing, (0, 1))
                    self.check(ledger, BadCut, told, stretch=(0, 1), cut=thing, ledger=ledger)

    def test_the_cut_is_checked_before_the_stretch(self):
        for cut in NOT_CUTS:
            for stretch in ((0, 0), None, (LAST, 1)):
                self.check(Ledger(), BadCut, told, Ledger(), cut, stretch)

    def test_cuts_and_stretches_at_the_edges(self):
        ledger = Ledger.of([("entry", 0, LAST, THIRDS)])
        for cut in ((0, 1), (1, BIG), (BIG - 1, BIG)):
            for stretch in ((0, 1), (0, LAST), (LAST - 1, 1), (1, LAST - 1)):
                self.assertIn(told(ledger, cut, stretch), numbers(ledger, stretch))


if __name__ == "__main__":
    unittest.main()
