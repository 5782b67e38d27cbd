import inspect
import random
import unittest
from math import gcd

from samples import BIG, BIGGEST

from onecut import floors
from onecut.floors import first_within, floor_sum, rests_within

LONG = 10 ** 30


def plain_sum(many, top, start, under):
    return sum((top * k + start) // under for k in range(many))


def plain_hits(many, top, start, under, low, high):
    return [k for k in range(many) if low <= (top * k + start) % under <= high]


def draw_bounds(drawn, under):
    return sorted((drawn.randrange(under), drawn.randrange(under)))


def draw_far(drawn):
    """top, start and under of up to 100 digits, with top and start of either sign."""
    under = drawn.randint(1, 10 ** drawn.randint(1, 100) - 1)
    return drawn.randint(-BIGGEST, BIGGEST) // 10 ** drawn.randint(0, 99), drawn.randint(-BIGGEST, BIGGEST), under


def round_sum(top, start, under):
    """The sum of the floors over one round, k from 0 to under - 1, from the sum of the remainders."""
    step = gcd(top, under)
    # The remainders are those of start modulo step, raised by all multiples of step below under; each comes step times.
    rests = step * (under // step * (start % step) + step * (under // step) * (under // step - 1) // 2)
    return (top * (under * (under - 1) // 2) + under * start - rests) // under


def round_rests(top, start, under, low, high):
    """How many k from 0 to under - 1 have a remainder from low to high."""
    step = gcd(top, under)
    return step * ((high - start) // step - (low - 1 - start) // step)


class Interface(unittest.TestCase):
    def test_names_of_parameters(self):
        expected = {
            "floor_sum": ["many", "top", "start", "under"],
            "rests_within": ["many", "top", "start", "under", "low", "high"],
            "first_within": ["many", "top", "start", "under", "low", "high"],
        }
        for name, parameters in expected.items():
            function = getattr(floors, name)
            self.assertEqual(list(inspect.signature(function).parameters), parameters)
            self.assertEqual(function.__module__, "onecut.floors")

    def test_calls_by_name(self):
        self.assertEqual(floor_sum(under=5, start=1, top=3, many=4), 3)
        self.assertEqual(rests_within(high=6, low=5, under=7, start=1, top=3, many=10), 2)
        self.assertEqual(first_within(high=6, low=5, under=7, start=1, top=3, many=10), 4)


class TermByTerm(unittest.TestCase):
    def test_all_small_ones(self):
        for under in range(1, 8):
            for top in range(-8, 9):
                for start in range(-9, 10):
                    rests = [(top * k + start) % under for k in range(10)]
                    for many in range(10):
                        self.assertEqual(floor_sum(many, top, start, under), plain_sum(many, top, start, under))
                    for low in range(under):
                        for high in range(low, under):
                            hits = [k for k in range(9) if low <= rests[k] <= high]
                            args = (9, top, start, under, low, high)
                            self.assertEqual(rests_within(*args), len(hits), args)
                            self.assertEqual(first_within(*args), hits[0] if hits else None, args)

    def test_drawn(self):
        drawn = random.Random(1)
        for _ in range(3000):
            size = drawn.choice((3, 30, 300, 10 ** 6))
            top, start, under = drawn.randint(-size, size), drawn.randint(-size, size), drawn.randint(1, size)
            low, high = draw_bounds(drawn, under)
            if drawn.random() < 0.5:
                high = min(high, low + drawn.randint(0, 3))
            many = drawn.randint(0, 150)
            args = (many, top, start, under, low, high)
            hits = plain_hits(*args)
            self.assertEqual(floor_sum(many, top, start, under), plain_sum(many, top, start, under), args)
            self.assertEqual(rests_within(*args), len(hits), args)
            self.assertEqual(first_within(*args), hits[0] if hits else None, args)

    def test_drawn_with_large_numbers(self):
        drawn = random.Random(2)
        for _ in range(500):
            top, start, under = draw_far(drawn)
            low, high = draw_bounds(drawn, under)
            many = drawn.randint(0, 40)
            args = (many, top, start, under, low, high)
            hits = plain_hits(*args)
            self.assertEqual(floor_sum(many, top, start, under), plain_sum(many, top, start, under), args)
            self.assertEqual(rests_within(*args), len(hits), args)
            self.assertEqual(first_within(*args), hits[0] if hits else None, args)

    def test_no_terms(self):
        self.assertEqual(floor_sum(0, 5, -7, 3), 0)
        self.assertEqual(rests_within(0, 5, -7, 3, 0, 2), 0)
        self.assertIsNone(first_within(0, 5, -7, 3, 0, 2))
        self.assertIsNone(first_within(0, 5, 1, 3, 1, 1))

    def test_under_one(self):
        self.assertEqual(floor_sum(5, 3, -2, 1), 20)
        self.assertEqual(rests_within(5, 3, -2, 1, 0, 0), 5)
        self.assertEqual(first_within(5, 3, -2, 1, 0, 0), 0)

    def test_top_zero(self):
        self.assertEqual(floor_sum(LONG, 0, -1, 2), -LONG)
        self.assertEqual(rests_within(LONG, 0, -1, 3, 2, 2), LONG)
        self.assertEqual(rests_within(LONG, 0, -1, 3, 0, 1), 0)
        self.assertEqual(first_within(LONG, 0, -1, 3, 2, 2), 0)
        self.assertIsNone(first_within(LONG, 0, -1, 3, 0, 1))

    def test_the_last_term_counts_and_the_next_one_does_not(self):
        for at in (1, 5, 96):
            rest = (3 * at + 1) % 97
            self.assertEqual(first_within(at + 1, 3, 1, 97, rest, rest), at)
            self.assertIsNone(first_within(at, 3, 1, 97, rest, rest))

    def test_the_same_call_gives_the_same(self):
        self.assertEqual({floor_sum(LONG, 7, -3, 11) for _ in range(3)}, {floor_sum(LONG, 7, -3, 11)})


class TooLongToVisit(unittest.TestCase):
    def test_cut_in_two(self):
        drawn = random.Random(3)
        for _ in range(200):
            top, start, under = draw_far(drawn)
            low, high = draw_bounds(drawn, under)
            many = drawn.randint(1, LONG)
            half = drawn.randint(0, many)
            later = start + top * half
            self.assertEqual(floor_sum(many, top, start, under),
                             floor_sum(half, top, start, under) + floor_sum(many - half, top, later, under))
            self.assertEqual(rests_within(many, top, start, under, low, high),
                             rests_within(half, top, start, under, low, high)
                             + rests_within(many - half, top, later, under, low, high))
            first = first_within(half, top, start, under, low, high)
            if first is None:
                first = first_within(many - half, top, later, under, low, high)
                first = None if first is None else first + half
            self.assertEqual(first_within(many, top, start, under, low, high), first)

    def test_bounds_cut_in_two(self):
        drawn = random.Random(4)
        for _ in range(200):
            top, start, under = draw_far(drawn)
            low, high = draw_bounds(drawn, under)
            between = drawn.randint(low, high)
            many = drawn.randint(1, LONG)
            whole = rests_within(many, top, start, under, low, high)
            parts = rests_within(many, top, start, under, low, between)
            if between < high:
                parts += rests_within(many, top, start, under, between + 1, high)
            self.assertEqual(whole, parts)
            self.assertEqual(rests_within(many, top, start, under, 0, under - 1), many)

    def test_whole_rounds(self):
        drawn = random.Random(5)
        for _ in range(200):
            under = drawn.randint(1, 10 ** drawn.randint(1, 29))
            top, start = drawn.randint(-BIG, BIG), drawn.randint(-BIG, BIG)
            if drawn.random() < 0.5:
                top = top // under * under + drawn.choice((0, 2, 6, 60)) * drawn.randrange(10)
            low, high = draw_bounds(drawn, under)
            self.assertEqual(floor_sum(under, top, start, under), round_sum(top, start, under))
            self.assertEqual(rests_within(under, top, start, under, low, high),
                             round_rests(top, start, under, low, high))
            rounds = LONG // under
            # Each round's floors are those of the one before, raised by top.
            whole = rounds * round_sum(top, start, under) + under * top * (rounds * (rounds - 1) // 2)
            self.assertEqual(floor_sum(rounds * under, top, start, under), whole)
            self.assertEqual(rests_within(rounds * under, top, start, under, low, high),
                             rounds * round_rests(top, start, under, low, high))

    def test_floors_and_rests_make_up_the_terms(self):
        # With under 2 and 3, the floors follow from the counts of the remainders.
        drawn = random.Random(6)
        for _ in range(100):
            top, start, _ = draw_far(drawn)
            many = drawn.randint(1, LONG)
            for under in (2, 3):
                terms = top * (many * (many - 1) // 2) + start * many
                rests = sum(rest * rests_within(many, top, start, under, rest, rest) for rest in range(under))
                self.assertEqual(floor_sum(many, top, start, under) * under + rests, terms)

    def test_first_of_a_single_remainder(self):
        drawn = random.Random(7)
        for _ in range(300):
            under = drawn.randint(2, 10 ** drawn.randint(1, 30))
            top, start = drawn.randint(-BIG, BIG), drawn.randint(-BIG, BIG)
            at = drawn.randrange(under // gcd(top, under))
            rest = (top * at + start) % under
            self.assertEqual(first_within(LONG + at, top, start, under, rest, rest), at)
            self.assertIsNone(first_within(at, top, start, under, rest, rest))

    def test_first_is_within_and_none_is_before(self):
        drawn = random.Random(8)
        found = 0
        for _ in range(300):
            top, start, under = draw_far(drawn)
            low, high = draw_bounds(drawn, under)
            high = min(high, low + max(0, under // drawn.randint(1, 10 ** 25)))
            first = first_within(LONG, top, start, under, low, high)
            if first is None:
                self.assertEqual(rests_within(LONG, top, start, under, low, high), 0)
            else:
                self.assertTrue(low <= (top * first + start) % under <= high)
                self.assertEqual(rests_within(first, top, start, under, low, high), 0)
                found += first > 10 ** 6
        self.assertGreater(found, 20)

    def test_no_remainder_ever(self):
        self.assertIsNone(first_within(LONG, 6 * BIG, 1, 12 * BIG, 2, 6 * BIG))
        self.assertEqual(rests_within(LONG, 6 * BIG, 1, 12 * BIG, 2, 6 * BIG), 0)
        self.assertEqual(first_within(LONG, 6 * BIG, 1, 12 * BIG, 2, 6 * BIG + 1), 1)

    def test_slowest_numbers(self):
        # Neighbours among these sums take the most steps of Euclid's algorithm.
        one, other = 1, 1
        while other < 10 ** 400:
            one, other = other, one + other
        half = LONG // 2
        self.assertEqual(floor_sum(LONG, one, 5, other),
                         floor_sum(half, one, 5, other) + floor_sum(LONG - half, one, 5 + one * half, other))
        rest = one * (LONG - 1) % other
        self.assertEqual(first_within(LONG, one, 0, other, rest, rest), LONG - 1)
        self.assertEqual(rests_within(LONG, one, 0, other, rest, rest), 1)
        rest = one * (10 ** 399) % other
        self.assertEqual(first_within(other, one, 0, other, rest, rest), 10 ** 399)
        self.assertEqual(rests_within(other, one, 0, other, rest, rest), 1)


if __name__ == "__main__":
    unittest.main()
