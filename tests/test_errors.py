import unittest

from onecut import errors

BASES = {
    "CutError": ValueError,
    "BadItem": errors.CutError,
    "OtherKind": errors.CutError,
    "BadDay": errors.CutError,
    "BadStretch": errors.CutError,
    "BadCut": errors.CutError,
    "BadText": errors.CutError,
    "BadRow": errors.CutError,
    "NoItem": KeyError,
    "Full": OverflowError,
    "NothingLeft": RuntimeError,
    "Unlike": RuntimeError,
    "NothingDone": IndexError,
}
ATTRIBUTES = {"BadItem": "part", "BadText": "place", "BadRow": "place", "NoItem": "number", "Full": "most",
              "Unlike": "day"}


class Errors(unittest.TestCase):
    def test_bases(self):
        for name, base in BASES.items():
            with self.subTest(name):
                self.assertEqual(getattr(errors, name).__bases__, (base,))

    def test_defined_in_this_file(self):
        for name in BASES:
            self.assertEqual(getattr(errors, name).__module__, "onecut.errors")

    def test_none_is_a_subclass_of_another_but_of_cut_error(self):
        for name in BASES:
            for other in BASES:
                expected = name == other or (other == "CutError" and BASES[name] is errors.CutError)
                with self.subTest(name=name, other=other):
                    self.assertIs(issubclass(getattr(errors, name), getattr(errors, other)), expected)

    def test_separate_ones_are_no_value_errors(self):
        for name in ("NoItem", "Full", "NothingLeft", "Unlike", "NothingDone"):
            self.assertFalse(issubclass(getattr(errors, name), ValueError), name)

    def test_attributes_by_position_and_by_name(self):
        for name, attribute in ATTRIBUTES.items():
            for value in (0, 3, 24, 10 ** 30):
                with self.subTest(name=name, value=value):
                    kind = getattr(errors, name)
                    self.assertEqual(vars(kind(value)), {attribute: value})
                    self.assertEqual(vars(kind(**{attribute: value})), {attribute: value})

    def test_attributes_belong_to_the_object(self):
        for name, attribute in ATTRIBUTES.items():
            one, other = getattr(errors, name)(1), getattr(errors, name)(2)
            self.assertEqual((getattr(one, attribute), getattr(other, attribute)), (1, 2))
            self.assertFalse(hasattr(getattr(errors, name), attribute), name)

    def test_the_others_have_no_attributes(self):
        for name in BASES:
            if name not in ATTRIBUTES:
                self.assertEqual(vars(getattr(errors, name)()), {}, name)

    def test_raised_and_caught_by_the_base(self):
        for name, base in BASES.items():
            kind = getattr(errors, name)
            with self.assertRaises(base) as caught:
                raise kind(5) if name in ATTRIBUTES else kind()
            self.assertIs(caught.exception.__class__, kind)
            self.assertIsInstance(str(caught.exception), str)

    def test_number_of_no_item_is_the_argument(self):
        for thing in (0, -1, True, False, None, "x", "", (1, (2, [3])), [], [[True], None], 10 ** 100 - 1):
            number = errors.NoItem(thing).number
            self.assertEqual(repr(number), repr(thing))

    def test_later_changes_do_not_reach_no_item(self):
        inner = [1]
        thing = [inner, (2, inner)]
        error = errors.NoItem(thing)
        inner.append(3)
        thing.append(4)
        self.assertEqual(error.number, [[1], (2, [1])])
        self.assertEqual(thing, [[1, 3], (2, [1, 3]), 4])

    def test_no_item_takes_integers_of_any_size(self):
        huge = 1 << 40000
        error = errors.NoItem(huge)
        self.assertTrue(error.number == huge)
        self.assertIsInstance(str(error), str)


if __name__ == "__main__":
    unittest.main()
