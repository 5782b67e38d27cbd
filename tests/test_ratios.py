import inspect
import unittest
from fractions import Fraction

from samples import BIG, BIGGEST, ODD_THINGS, check_untouched, nested

from onecut import ratios
from onecut.ratios import floor_of, is_less, is_ratio, lowest, minus, plus, rest_of

SOME = sorted({(f.numerator, f.denominator) for f in [Fraction(a, b) for a in range(-7, 8) for b in range(1, 6)]})
LARGE = [(BIG, BIGGEST - 1), (-BIG, 10 ** 98), (1, BIGGEST), (-1, BIGGEST), (BIGGEST, 1), (-BIGGEST, 1)]


def fraction(ratio):
    return Fraction(ratio[0], ratio[1])


def ratio_of(number):
    return (number.numerator, number.denominator)


class Interface(unittest.TestCase):
    def test_names_of_parameters(self):
        expected = {"is_ratio": ["thing"], "lowest": ["top", "under"], "plus": ["one", "other"],
                    "minus": ["one", "other"], "floor_of": ["ratio"], "rest_of": ["ratio"],
                    "is_less": ["one", "other"]}
        for name, parameters in expected.items():
            function = getattr(ratios, name)
            self.assertEqual(list(inspect.signature(function).parameters), parameters)
            self.assertEqual(function.__module__, "onecut.ratios")

    def test_calls_by_name(self):
        self.assertIs(is_ratio(thing=(1, 3)), True)
        self.assertEqual(lowest(under=-6, top=4), (-2, 3))
        self.assertEqual(plus(other=(1, 6), one=(1, 3)), (1, 2))
        self.assertEqual(minus(other=(1, 6), one=(1, 3)), (1, 6))
        self.assertEqual(floor_of(ratio=(-1, 3)), -1)
        self.assertEqual(rest_of(ratio=(-1, 3)), (2, 3))
        self.assertIs(is_less(other=(1, 3), one=(1, 6)), True)


class IsRatio(unittest.TestCase):
    def check(self, thing, expected):
        with self.subTest(thing=thing):
            self.assertIs(check_untouched(self, is_ratio, thing), expected)

    def test_ratios(self):
        for thing in SOME + LARGE:
            self.check(thing, True)

    def test_zero_has_one_form(self):
        self.check((0, 1), True)
        for under in (-1, 0, 2, 3, BIG):
            self.check((0, under), False)

    def test_common_divisors(self):
        for thing in ((2, 4), (-2, 4), (3, 3), (-3, 3), (2, 2), (6, 4), (5 * BIG, 7 * BIG), (BIG, BIG), (BIG, 2 * BIG)):
            self.check(thing, False)

    def test_under_of_zero_or_below(self):
        for thing in ((1, 0), (-1, 0), (1, -1), (-1, -3), (1, -3), (BIG, -1), (1, -BIG), (0, 0)):
            self.check(thing, False)

    def test_booleans_as_a_part(self):
        for thing in ((True, 3), (False, 1), (1, True), (2, True), (0, True), (True, True), (False, True), (1, False)):
            self.check(thing, False)

    def test_other_things(self):
        for thing in ODD_THINGS:
            self.check(thing, False)
        for thing in ([1, 3], ["1", "3"], (1, None), (None, 3), (1, 3, 1), (1, 3, None), ([1], [3]), ((1,), (3,))):
            self.check(thing, False)
        self.check(nested(18, (1, 3)), False)
        self.check(((1, 3),) * 2000, False)


class Lowest(unittest.TestCase):
    def test_small_ones(self):
        for top in range(-30, 31):
            for under in list(range(-12, 0)) + list(range(1, 13)):
                self.assertEqual(lowest(top, under), ratio_of(Fraction(top, under)))

    def test_zero_on_top(self):
        for under in (1, -1, 2, -2, 15, BIG, -BIG):
            self.assertEqual(lowest(0, under), (0, 1))

    def test_large_parts(self):
        for top, under, expected in (
            (3 * BIG, 2 * BIG, (3, 2)), (BIG, -BIG, (-1, 1)), (-BIG, -BIG, (1, 1)), (-BIG, 1, (-BIG, 1)),
            (BIG, BIG + 1, (BIG, BIG + 1)), (BIG, -BIG - 1, (-BIG, BIG + 1)), (10 ** 99, 15 * 10 ** 97, (20, 3)),
            (2 ** 300, -(2 ** 301), (-1, 2)), (10 ** 98, 10 ** 99 + 10 ** 98, (1, 11)),
        ):
            self.assertEqual(lowest(top, under), expected)

    def test_parts_are_integers_in_a_tuple(self):
        result = lowest(4, -2)
        self.assertEqual([part.__class__ for part in (result, result[0], result[1])], [tuple, int, int])


class Sums(unittest.TestCase):
    def test_small_ones(self):
        for one in SOME:
            for other in SOME:
                self.assertEqual(plus(one, other), ratio_of(fraction(one) + fraction(other)))
                self.assertEqual(minus(one, other), ratio_of(fraction(one) - fraction(other)))

    def test_large_ones(self):
        for one in LARGE + [(1, 3), (0, 1)]:
            for other in LARGE:
                self.assertEqual(plus(one, other), ratio_of(fraction(one) + fraction(other)))
                self.assertEqual(minus(one, other), ratio_of(fraction(one) - fraction(other)))

    def test_with_the_sign_turned(self):
        for one in SOME + LARGE:
            self.assertEqual(plus(one, (-one[0], one[1])), (0, 1))
            self.assertEqual(minus(one, one), (0, 1))

    def test_whole_ones(self):
        self.assertEqual(plus((2, 1), (-5, 1)), (-3, 1))
        self.assertEqual(minus((2, 1), (-5, 1)), (7, 1))
        self.assertEqual(plus((1, 2), (1, 2)), (1, 1))
        self.assertEqual(plus((0, 1), (0, 1)), (0, 1))

    def test_results_may_be_passed_again_whatever_their_size(self):
        total, expected = (0, 1), Fraction(0)
        for step in range(1, 20):
            part = (1, BIG + step)
            total, expected = plus(total, part), expected + fraction(part)
        self.assertGreater(total[1], 10 ** 1500)
        self.assertEqual(total, ratio_of(expected))
        self.assertIs(is_ratio(total), True)
        self.assertIs(is_less(total, plus(total, (1, total[1]))), True)
        self.assertEqual(rest_of(plus(total, (-2, 1))), total)
        self.assertEqual(floor_of(minus(total, (2, 1))), -2)


class FloorsAndRests(unittest.TestCase):
    def test_small_and_large(self):
        for one in SOME + LARGE:
            number = fraction(one)
            floor = number.numerator // number.denominator
            self.assertEqual(floor_of(one), floor)
            self.assertEqual(rest_of(one), ratio_of(number - floor))
            self.assertIs(is_ratio(rest_of(one)), True)

    def test_as_written(self):
        for ratio, floor, rest in (
            ((0, 1), 0, (0, 1)), ((3, 1), 3, (0, 1)), ((-3, 1), -3, (0, 1)), ((7, 2), 3, (1, 2)), ((-7, 2), -4, (1, 2)),
            ((-1, 3), -1, (2, 3)), ((2, 3), 0, (2, 3)), ((-1, BIGGEST), -1, (BIGGEST - 1, BIGGEST)),
            ((BIGGEST, 1), BIGGEST, (0, 1)), ((BIG, BIG - 1), 1, (1, BIG - 1)),
        ):
            self.assertEqual((floor_of(ratio), rest_of(ratio)), (floor, rest))
            self.assertIs(floor_of(ratio).__class__, int)


class IsLess(unittest.TestCase):
    def test_small_and_large(self):
        for one in SOME + LARGE:
            for other in SOME + LARGE:
                self.assertIs(is_less(one, other), fraction(one) < fraction(other))

    def test_equal_ones(self):
        for one in SOME + LARGE:
            self.assertIs(is_less(one, one), False)

    def test_very_little_between(self):
        low, high = (BIG - 1, BIG), (BIG, BIG + 1)
        for one, other in ((low, high), ((-high[0], high[1]), (-low[0], low[1])),
                           ((0, 1), (1, BIGGEST)), ((-1, BIGGEST), (0, 1)), ((BIGGEST - 1, BIGGEST), (1, 1))):
            self.assertIs(is_less(one, other), True)
            self.assertIs(is_less(other, one), False)


if __name__ == "__main__":
    unittest.main()
