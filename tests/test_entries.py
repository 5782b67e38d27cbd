import inspect
import random
import unittest
from fractions import Fraction

from plain import day_amount, day_sums, draw_entries, draw_stretch, fraction, ratio
from samples import LAST, NOT_DAYS, NOT_STRETCHES, THIRDS, check_raises, check_untouched

from onecut import entries as module
from onecut.entries import amount, exact, point, sum_before
from onecut.errors import BadDay, BadStretch

MIXED = [("entry", 0, 6, ((1, 3), (1, 2))), ("entry", 1, 1, ((1, 6),))]
# Patterns of 1, 2, 3 and 4 amounts: they all begin anew every 12 days.
LONG = [
    ("entry", 0, LAST, ((1, 7),)), ("entry", 0, LAST, ((-2, 3), (5, 1))), ("entry", 0, LAST, ((1, 2), (0, 1), (-1, 6))),
    ("entry", 0, LAST, ((1, 999983), (-999979, 1000000), (10 ** 6, 1), (3, 4))),
]
ROUND = 12


def moved(entries, days):
    return [(kind, first + days, many, amounts) for kind, first, many, amounts in entries]


def far_ends(drawn, many):
    """So many different days, ascending, at all distances."""
    days = {0, LAST}
    while len(days) < many:
        days.add(drawn.randint(0, 10 ** drawn.randint(1, 30)))
    return sorted(days)


class Interface(unittest.TestCase):
    def test_names_of_parameters(self):
        expected = {"amount": ["entries", "day"], "sum_before": ["entries", "day"], "point": ["entries", "day"],
                    "exact": ["entries", "stretch"]}
        for name, parameters in expected.items():
            function = getattr(module, name)
            self.assertEqual(list(inspect.signature(function).parameters), parameters)
            self.assertEqual(function.__module__, "onecut.entries")

    def test_calls_by_name(self):
        self.assertEqual(amount(day=1, entries=MIXED), (2, 3))
        self.assertEqual(sum_before(day=2, entries=MIXED), (1, 1))
        self.assertEqual(point(day=1, entries=MIXED), (2, 3))
        self.assertEqual(exact(stretch=(1, 3), entries=MIXED), (3, 2))


class DayByDay(unittest.TestCase):
    def test_drawn(self):
        drawn = random.Random(11)
        for _ in range(300):
            last = drawn.randint(1, 25)
            entries = draw_entries(drawn, last, under=12, most=6)
            total = Fraction(0)
            for day in range(last + 3):
                self.assertEqual(check_untouched(self, amount, entries, day), ratio(day_amount(entries, day)))
                self.assertEqual(check_untouched(self, sum_before, entries, day), ratio(total))
                self.assertEqual(check_untouched(self, point, entries, day), ratio(-total % 1))
                total += day_amount(entries, day)

    def test_drawn_stretches(self):
        drawn = random.Random(12)
        for _ in range(300):
            last = drawn.randint(1, 25)
            entries = draw_entries(drawn, last, under=12, most=6)
            for _ in range(10):
                stretch = draw_stretch(drawn, last + 3)
                total = sum((day_amount(entries, day) for day in range(stretch[0], sum(stretch))), Fraction(0))
                self.assertEqual(check_untouched(self, exact, entries, stretch), ratio(total))

    def test_many_days(self):
        drawn = random.Random(13)
        entries = draw_entries(drawn, 4000, under=1000, most=6) + LONG[:3]
        sums = day_sums(entries, 4000)
        for day in range(0, 4001, 37):
            self.assertEqual(sum_before(entries, day), ratio(sums[day]))
            if day:
                self.assertEqual(exact(entries, (day // 2, day - day // 2)), ratio(sums[day] - sums[day // 2]))

    def test_results_are_ratios(self):
        # In lowest terms, zero as (0, 1), and the sums as tuples.
        halves = [("entry", 0, 4, ((1, 2),)), ("entry", 0, 2, ((-1, 2),))]
        self.assertEqual([amount(halves, day) for day in range(5)], [(0, 1), (0, 1), (1, 2), (1, 2), (0, 1)])
        self.assertEqual([sum_before(halves, day) for day in range(6)],
                         [(0, 1), (0, 1), (0, 1), (1, 2), (1, 1), (1, 1)])
        self.assertEqual([point(halves, day) for day in range(5)], [(0, 1), (0, 1), (0, 1), (1, 2), (0, 1)])
        self.assertEqual([exact(halves, (2, many)) for many in (1, 2, 3)], [(1, 2), (1, 1), (1, 1)])

    def test_no_entries(self):
        for day in (0, 1, LAST):
            self.assertEqual([amount([], day), sum_before([], day), point([], day)], [(0, 1)] * 3)
        self.assertEqual(exact([], (0, LAST)), (0, 1))

    def test_edges_of_an_entry(self):
        one = [("entry", 3, 5, ((1, 2), (1, 3)))]
        self.assertEqual([amount(one, day) for day in range(10)],
                         [(0, 1)] * 3 + [(1, 2), (1, 3), (1, 2), (1, 3), (1, 2)] + [(0, 1)] * 2)
        self.assertEqual(sum_before(one, 3), (0, 1))
        self.assertEqual(sum_before(one, 4), (1, 2))
        self.assertEqual(sum_before(one, 8), (13, 6))
        self.assertEqual(sum_before(one, LAST), (13, 6))

    def test_more_amounts_than_days(self):
        one = [("entry", 1, 2, ((1, 2), (1, 3), (1, 5), (1, 7)))]
        self.assertEqual([amount(one, day) for day in range(5)], [(0, 1), (1, 2), (1, 3), (0, 1), (0, 1)])
        self.assertEqual(sum_before(one, 4), (5, 6))

    def test_points_of_the_document(self):
        thirds = [("entry", 0, LAST, THIRDS)]
        self.assertEqual([point(thirds, day) for day in range(4)], [(0, 1), (2, 3), (1, 3), (0, 1)])

    def test_order_of_the_entries(self):
        drawn = random.Random(14)
        for _ in range(50):
            entries = draw_entries(drawn, 20, most=6)
            mixed = drawn.sample(entries, len(entries))
            for day in range(22):
                for function in (amount, sum_before, point):
                    self.assertEqual(function(entries, day), function(mixed, day))


class TooLongToVisit(unittest.TestCase):
    def test_cut_in_two(self):
        drawn = random.Random(15)
        for _ in range(40):
            entries = LONG + draw_entries(drawn, LAST, under=10 ** 6, most=2)
            start, middle, end = sorted(drawn.sample(far_ends(drawn, 9), 3))
            parts = [exact(entries, (start, middle - start)), exact(entries, (middle, end - middle))]
            self.assertEqual(exact(entries, (start, end - start)), ratio(sum(map(fraction, parts))))
            before, whole = fraction(sum_before(entries, start)), fraction(exact(entries, (start, end - start)))
            self.assertEqual(sum_before(entries, end), ratio(before + whole))

    def test_one_day(self):
        drawn = random.Random(16)
        for _ in range(100):
            entries = LONG + draw_entries(drawn, LAST, under=10 ** 6, most=2)
            day = drawn.choice(far_ends(drawn, 9)[:-1])
            self.assertEqual(exact(entries, (day, 1)), amount(entries, day))
            self.assertEqual(amount(entries, day), ratio(day_amount(entries, day)))

    def test_whole_rounds(self):
        one_round = sum((day_amount(LONG, day) for day in range(ROUND)), Fraction(0))
        drawn = random.Random(17)
        for day in far_ends(drawn, 40):
            rounds, rest = divmod(day, ROUND)
            whole = rounds * one_round + sum((day_amount(LONG, one) for one in range(rest)), Fraction(0))
            self.assertEqual(sum_before(LONG, day), ratio(whole))
            self.assertEqual(point(LONG, day), ratio(-whole % 1))
            if rounds:
                self.assertEqual(exact(LONG, (rest, rounds * ROUND)), ratio(rounds * one_round))

    def test_moved_to_far_days(self):
        drawn = random.Random(18)
        for _ in range(60):
            entries = draw_entries(drawn, 20, under=30)
            days = drawn.choice((10 ** 29, LAST - 25, drawn.randint(0, LAST - 25)))
            far = moved(entries, days)
            for day in range(25):
                self.assertEqual(amount(far, days + day), amount(entries, day))
                self.assertEqual(sum_before(far, days + day), sum_before(entries, day))
                self.assertEqual(point(far, days + day), point(entries, day))
                self.assertEqual(exact(far, (days, day + 1)), exact(entries, (0, day + 1)))
            self.assertEqual(sum_before(far, days // 2), (0, 1))

    def test_last_days(self):
        thirds = [("entry", 0, LAST, THIRDS)]
        self.assertEqual(amount(thirds, LAST - 1), (1, 3))
        self.assertEqual(amount(thirds, LAST), (0, 1))
        self.assertEqual(sum_before(thirds, LAST), (LAST, 3))
        self.assertEqual(point(thirds, LAST), (2, 3))
        self.assertEqual(exact(thirds, (0, LAST)), (LAST, 3))
        self.assertEqual(exact(thirds, (LAST - 1, 1)), (1, 3))
        last = [("entry", LAST - 1, 1, ((10 ** 6, 1),))]
        self.assertEqual([sum_before(last, LAST - 1), sum_before(last, LAST)], [(0, 1), (10 ** 6, 1)])


class Errors(unittest.TestCase):
    def test_no_day(self):
        for function in (amount, sum_before, point):
            for entries in ([], MIXED, LONG):
                for thing in NOT_DAYS:
                    with self.subTest(function=function.__name__, thing=thing):
                        check_raises(self, BadDay, {}, function, entries, thing)
                        check_raises(self, BadDay, {}, function, day=thing, entries=entries)

    def test_no_stretch(self):
        for entries in ([], MIXED, LONG):
            for thing in NOT_STRETCHES:
                with self.subTest(thing=thing):
                    check_raises(self, BadStretch, {}, exact, entries, thing)
                    check_raises(self, BadStretch, {}, exact, stretch=thing, entries=entries)

    def test_days_and_stretches_at_the_edges(self):
        for day in (0, 1, LAST - 1, LAST):
            self.assertEqual(sum_before([], day), (0, 1))
        for stretch in ((0, 1), (0, LAST), (1, LAST - 1), (LAST - 1, 1), (LAST // 2, LAST // 2)):
            self.assertEqual(exact([], stretch), (0, 1))


if __name__ == "__main__":
    unittest.main()
