import inspect
import unittest

from samples import BIG, ODD_THINGS, check_untouched, nested

from onecut import spans
from onecut.ratios import lowest
from onecut.spans import arc, both, has, is_cuts, length, without

ZERO, ONE = (0, 1), (1, 1)
THIRD, HALF, TWO_THIRDS = (1, 3), (1, 2), (2, 3)
ALL = [(ZERO, ONE)]
CELLS = 6


def from_cells(cells):
    """The set of cuts that holds just the sixths with these indexes."""
    found = []
    for cell in range(CELLS):
        if cell in cells and cell - 1 in cells:
            found[-1] = (found[-1][0], lowest(cell + 1, CELLS))
        elif cell in cells:
            found.append((lowest(cell, CELLS), lowest(cell + 1, CELLS)))
    return found


SUBSETS = [frozenset(cell for cell in range(CELLS) if bits >> cell & 1) for bits in range(1 << CELLS)]


class Interface(unittest.TestCase):
    def test_names_of_parameters(self):
        expected = {"is_cuts": ["thing"], "arc": ["low", "high"], "both": ["one", "other"], "without": ["one", "other"],
                    "length": ["one"], "has": ["one", "cut"]}
        for name, parameters in expected.items():
            function = getattr(spans, name)
            self.assertEqual(list(inspect.signature(function).parameters), parameters)
            self.assertEqual(function.__module__, "onecut.spans")

    def test_calls_by_name(self):
        self.assertIs(is_cuts(thing=[]), True)
        self.assertEqual(arc(high=THIRD, low=ZERO), [(ZERO, THIRD)])
        self.assertEqual(both(other=[(ZERO, HALF)], one=[(THIRD, ONE)]), [(THIRD, HALF)])
        self.assertEqual(without(other=[(ZERO, HALF)], one=ALL), [(HALF, ONE)])
        self.assertEqual(length(one=[(THIRD, HALF)]), (1, 6))
        self.assertIs(has(cut=THIRD, one=[(THIRD, HALF)]), True)


class IsCuts(unittest.TestCase):
    def check(self, thing, expected):
        with self.subTest(thing=thing):
            self.assertIs(check_untouched(self, is_cuts, thing), expected)

    def test_sets_of_cuts(self):
        for cells in SUBSETS:
            self.check(from_cells(cells), True)
        self.check([], True)
        self.check(ALL, True)
        self.check([(ZERO, (1, BIG)), ((BIG - 1, BIG), ONE)], True)
        self.check([((k, 1009), (k + 1, 1009)) for k in (1, 3, 5, 8, 11, 1000)], True)

    def test_spans_that_touch_or_overlap(self):
        self.check([(ZERO, THIRD), (THIRD, HALF)], False)
        self.check([(ZERO, HALF), (THIRD, TWO_THIRDS)], False)
        self.check([(ZERO, ONE), (THIRD, HALF)], False)
        self.check([(ZERO, HALF), (ZERO, HALF)], False)
        self.check([(ZERO, (1, 6)), (THIRD, HALF), (HALF, ONE)], False)

    def test_another_order(self):
        self.check([(HALF, ONE), (ZERO, THIRD)], False)
        self.check([(ZERO, (1, 6)), (HALF, TWO_THIRDS), ((1, 4), THIRD)], False)

    def test_empty_or_turned_spans(self):
        for cut in (ZERO, THIRD, ONE):
            self.check([(cut, cut)], False)
        self.check([(HALF, THIRD)], False)
        self.check([(ONE, ZERO)], False)
        self.check([(ZERO, THIRD), (HALF, HALF)], False)

    def test_out_of_bounds(self):
        self.check([((-1, 3), THIRD)], False)
        self.check([((-1, BIG), ONE)], False)
        self.check([(ZERO, (4, 3))], False)
        self.check([(ZERO, (BIG + 1, BIG))], False)
        self.check([(ZERO, (2, 1))], False)
        self.check([((-2, 1), (-1, 1))], False)
        self.check([((1, 1), (2, 1))], False)
        self.check([((4, 3), (5, 3))], False)

    def test_not_in_lowest_terms(self):
        self.check([((0, 2), HALF)], False)
        self.check([(ZERO, (2, 4))], False)
        self.check([(ZERO, (2, 2))], False)
        self.check([((-1, -3), ONE)], False)
        self.check([(ZERO, (1, 0))], False)
        self.check([(ZERO, THIRD), (HALF, (4, 6))], False)

    def test_lists_in_the_place_of_tuples_and_the_other_way(self):
        self.check([[ZERO, THIRD]], False)
        self.check([([0, 1], THIRD)], False)
        self.check([(ZERO, [1, 3])], False)
        self.check([(ZERO, THIRD), [HALF, ONE]], False)
        self.check(((ZERO, THIRD),), False)
        self.check((ZERO, THIRD), False)
        self.check((), False)

    def test_booleans(self):
        self.check([True], False)
        self.check([((False, 1), HALF)], False)
        self.check([((0, True), HALF)], False)
        self.check([(ZERO, (True, 2))], False)
        self.check([(ZERO, (1, True))], False)
        self.check([(ZERO, True)], False)
        self.check([(False, True)], False)

    def test_other_things(self):
        for thing in ODD_THINGS:
            self.check(thing, False)
            self.check([thing] if thing != (ZERO, ONE) else [thing, thing], False)
            self.check([(ZERO, THIRD), thing], False)
            self.check([(ZERO, thing)], False)
            self.check([(thing, ONE)], False)
        self.check([(ZERO,)], False)
        self.check([(ZERO, THIRD, HALF)], False)
        self.check([0, 1], False)
        self.check([[]], False)
        self.check(nested(19, (ZERO, ONE)), False)
        self.check([(ZERO, HALF)] * 1000, False)


class Arc(unittest.TestCase):
    def test_every_pair_of_sixths(self):
        for low in range(CELLS):
            for high in range(CELLS):
                cells = [(low + step) % CELLS for step in range((high - low) % CELLS)]
                result = check_untouched(self, arc, lowest(low, CELLS), lowest(high, CELLS))
                self.assertEqual(result, from_cells(cells))
                self.assertIs(is_cuts(result), True)

    def test_as_written(self):
        self.assertEqual(arc(THIRD, THIRD), [])
        self.assertEqual(arc(ZERO, ZERO), [])
        self.assertEqual(arc(THIRD, TWO_THIRDS), [(THIRD, TWO_THIRDS)])
        self.assertEqual(arc(TWO_THIRDS, THIRD), [(ZERO, THIRD), (TWO_THIRDS, ONE)])
        self.assertEqual(arc(TWO_THIRDS, ZERO), [(TWO_THIRDS, ONE)])
        self.assertEqual(arc((BIG - 1, BIG), (1, BIG)), [(ZERO, (1, BIG)), ((BIG - 1, BIG), ONE)])

    def test_new_each_time(self):
        for low, high in ((THIRD, THIRD), (THIRD, HALF), (HALF, THIRD), (HALF, ZERO)):
            first, expected = arc(low, high), arc(low, high)
            self.assertEqual(first, expected)
            first.append("changed")
            self.assertEqual(arc(low, high), expected)


class BothAndWithout(unittest.TestCase):
    def test_all_sets_of_sixths(self):
        for one in SUBSETS:
            for other in SUBSETS:
                self.assertEqual(both(from_cells(one), from_cells(other)), from_cells(one & other))
                self.assertEqual(without(from_cells(one), from_cells(other)), from_cells(one - other))

    def test_arguments_do_not_change_and_results_are_new(self):
        some = [(ZERO, THIRD), (HALF, TWO_THIRDS)]
        for one in ([], ALL, some):
            for other in ([], ALL, some, one):
                for function in (both, without):
                    result = check_untouched(self, function, one, other)
                    self.assertIs(is_cuts(result), True)
                    expected = list(result)
                    result.append("changed")
                    self.assertEqual(check_untouched(self, function, one, other), expected)

    def test_empty_set_and_all_cuts(self):
        some = [(ZERO, THIRD), (HALF, TWO_THIRDS)]
        self.assertEqual([both(some, []), both([], some), both(some, ALL), both(ALL, some)], [[], [], some, some])
        self.assertEqual([without(some, []), without([], some), without(some, ALL)], [some, [], []])
        self.assertEqual(without(ALL, some), [(THIRD, HALF), (TWO_THIRDS, ONE)])
        self.assertEqual([without(ALL, ALL), without(ALL, []), both(ALL, ALL), both([], [])], [[], ALL, ALL, []])

    def test_one_set_twice(self):
        some = [(ZERO, THIRD), (HALF, TWO_THIRDS)]
        self.assertEqual(both(some, some), some)
        self.assertEqual(without(some, some), [])

    def test_spans_that_touch(self):
        self.assertEqual(both([(ZERO, THIRD)], [(THIRD, ONE)]), [])
        self.assertEqual(without([(ZERO, THIRD)], [(THIRD, ONE)]), [(ZERO, THIRD)])
        self.assertEqual(without([(THIRD, ONE)], [(ZERO, THIRD)]), [(THIRD, ONE)])
        self.assertEqual(without([(ZERO, HALF)], [(ZERO, THIRD)]), [(THIRD, HALF)])

    def test_of_very_different_unders(self):
        one, other = [((1, BIG), (BIG - 1, BIG))], [(ZERO, (1, BIG - 1)), (HALF, (BIG, BIG + 1))]
        self.assertEqual(both(one, other), [((1, BIG), (1, BIG - 1)), (HALF, (BIG - 1, BIG))])
        self.assertEqual(without(one, other), [((1, BIG - 1), HALF)])
        self.assertEqual(without(other, one), [(ZERO, (1, BIG)), ((BIG - 1, BIG), (BIG, BIG + 1))])

    def test_many_spans(self):
        even = [((k, 4001), (k + 1, 4001)) for k in range(2, 4000, 2)]
        odd = without([((2, 4001), (4000, 4001))], even)
        self.assertEqual(odd, [((k, 4001), (k + 1, 4001)) for k in range(3, 4000, 2)])
        self.assertEqual(both(even, odd), [])
        self.assertEqual(both(even, even), even)


class Length(unittest.TestCase):
    def test_sixths(self):
        for cells in SUBSETS:
            self.assertEqual(check_untouched(self, length, from_cells(cells)), lowest(len(cells), CELLS))

    def test_none_and_all(self):
        self.assertEqual(length([]), (0, 1))
        self.assertEqual(length(ALL), (1, 1))

    def test_large_unders(self):
        self.assertEqual(length([((1, BIG), (BIG - 1, BIG))]), (BIG - 2, BIG))
        parts = [((k, BIG), (k * BIG + 1, BIG * BIG)) for k in range(1, 8)]
        self.assertIs(is_cuts(parts), True)
        self.assertEqual(length(parts), (7, BIG * BIG))


class Has(unittest.TestCase):
    def test_sixths_and_between(self):
        for cells in SUBSETS:
            one = from_cells(cells)
            for twelfth in range(12):
                self.assertIs(check_untouched(self, has, one, lowest(twelfth, 12)), twelfth // 2 in cells)

    def test_ends(self):
        one = [(THIRD, HALF), (TWO_THIRDS, ONE)]
        for cut, expected in ((THIRD, True), (HALF, False), (TWO_THIRDS, True), (ZERO, False), ((2, 5), True),
                              ((3, 5), False), ((BIG - 1, BIG), True)):
            self.assertIs(has(one, cut), expected)

    def test_none_and_all(self):
        for cut in (ZERO, THIRD, (1, BIG), (BIG - 1, BIG)):
            self.assertIs(has([], cut), False)
            self.assertIs(has(ALL, cut), True)

    def test_very_near_the_ends(self):
        one = [((BIG - 1, BIG), (BIG, BIG + 1))]
        for cut, expected in ((one[0][0], True), (one[0][1], False), ((BIG - 2, BIG - 1), False),
                              ((2 * BIG - 1, 2 * BIG + 1), True)):
            self.assertIs(has(one, cut), expected)


if __name__ == "__main__":
    unittest.main()
