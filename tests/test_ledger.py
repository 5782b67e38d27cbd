import inspect
import random
import unittest

from plain import draw_entry, draw_stretch
from samples import BIGGEST, EDGE_ITEMS, LAST, NOT_INTEGERS, NOT_ITEMS, THIRDS, check_raises, state

from onecut.errors import BadItem, Full, NoItem, OtherKind
from onecut.ledger import Ledger

ENTRY = ("entry", 0, 3, THIRDS)
OTHER_ENTRY = ("entry", 1, 2, ((1, 2), (-1, 5)))
STATEMENT = ("statement", 0, 1, 1)
OTHER_STATEMENT = ("statement", 0, 2, 0)


def filled(entries, statements):
    """A ledger with so many different items."""
    items = [("entry", 0, 1 + k, THIRDS) for k in range(entries)]
    return Ledger.of(items + [("statement", k, 1, 0) for k in range(statements)])


class Model:
    """A ledger as a list of pairs."""

    def __init__(self):
        self.pairs = []
        self.next = 0

    def of_kind(self, kind):
        return [item for _, item in self.pairs if item[0] == kind]

    def full(self, item):
        return len(self.of_kind(item[0])) == (6 if item[0] == "entry" else 24)

    def add(self, item):
        self.pairs.append((self.next, item))
        self.next += 1
        return self.next - 1

    def drop(self, number):
        item = dict(self.pairs)[number]
        self.pairs.remove((number, item))
        return item

    def change(self, number, item):
        before = dict(self.pairs)[number]
        self.pairs[self.pairs.index((number, before))] = (number, item)
        return before

    def check(self, test, ledger):
        entries, statements = self.of_kind("entry"), self.of_kind("statement")
        test.assertEqual(ledger.numbered(), self.pairs)
        test.assertEqual(list(ledger.walk()), self.pairs)
        test.assertEqual(ledger.entries(), entries)
        test.assertEqual(ledger.statements(), statements)
        test.assertEqual(ledger.next_number, self.next)
        test.assertEqual(len(ledger), len(self.pairs))
        test.assertEqual(repr(ledger), f"Ledger({len(entries)}, {len(statements)})")


def draw_item(drawn):
    if drawn.random() < 0.3:
        return draw_entry(drawn, 9)
    return ("statement", *draw_stretch(drawn, 5), drawn.randint(-2, 2))


class Interface(unittest.TestCase):
    def test_names_of_parameters(self):
        expected = {"add": ["self", "item"], "drop": ["self", "number"], "change": ["self", "number", "item"],
                    "numbered": ["self"], "entries": ["self"], "statements": ["self"], "copy": ["self"],
                    "walk": ["self"]}
        for name, parameters in expected.items():
            self.assertEqual(list(inspect.signature(vars(Ledger)[name]).parameters), parameters)
        self.assertEqual(list(inspect.signature(Ledger.of).parameters), ["items"])
        self.assertEqual(list(inspect.signature(Ledger).parameters), [])
        self.assertEqual(Ledger.__module__, "onecut.ledger")

    def test_all_stand_in_the_class_itself(self):
        for name in ("__init__", "__eq__", "__len__", "__repr__"):
            self.assertIn(name, vars(Ledger))
        self.assertIsInstance(vars(Ledger)["of"], classmethod)
        self.assertIsInstance(vars(Ledger)["next_number"], property)
        self.assertTrue(inspect.isgeneratorfunction(Ledger.walk))

    def test_class_attributes(self):
        self.assertEqual((Ledger.MOST_ENTRIES, Ledger.MOST_STATEMENTS), (6, 24))
        self.assertEqual((Ledger().MOST_ENTRIES, Ledger().MOST_STATEMENTS), (6, 24))

    def test_calls_by_name(self):
        ledger = Ledger.of(items=[ENTRY])
        self.assertEqual(ledger.add(item=STATEMENT), 1)
        self.assertEqual(ledger.change(item=OTHER_STATEMENT, number=1), STATEMENT)
        self.assertEqual(ledger.drop(number=0), ENTRY)


class Items(unittest.TestCase):
    def test_empty(self):
        Model().check(self, Ledger())
        Model().check(self, Ledger.of([]))

    def test_drawn(self):
        drawn = random.Random(21)
        for _ in range(60):
            ledger, model = Ledger(), Model()
            for _ in range(120):
                self.step(drawn, ledger, model)
                model.check(self, ledger)

    def step(self, drawn, ledger, model):
        item, word = draw_item(drawn), drawn.choice(("add", "add", "add", "drop", "change", "copy"))
        number = drawn.randrange(-1, model.next + 1)
        if word == "add" and model.full(item):
            check_raises(self, Full, {"most": 6 if item[0] == "entry" else 24}, ledger.add, item)
        elif word == "add":
            self.assertEqual(ledger.add(item), model.add(item))
        elif word == "copy":
            self.assertEqual(state(ledger.copy()), state(ledger))
        elif number not in dict(model.pairs):
            check_raises(self, NoItem, {"number": number}, ledger.drop, number)
            check_raises(self, NoItem, {"number": number}, ledger.change, number, item)
        elif word == "drop":
            self.assertEqual(ledger.drop(number), model.drop(number))
        elif dict(model.pairs)[number][0] != item[0]:
            check_raises(self, OtherKind, {}, ledger.change, number, item)
        else:
            self.assertEqual(ledger.change(number, item), model.change(number, item))

    def test_numbers_are_never_used_again(self):
        ledger = Ledger()
        self.assertEqual([ledger.add(STATEMENT), ledger.add(ENTRY)], [0, 1])
        self.assertEqual([ledger.drop(1), ledger.next_number, ledger.add(ENTRY)], [ENTRY, 2, 2])
        self.assertEqual([ledger.drop(0), ledger.drop(2), ledger.add(ENTRY)], [STATEMENT, ENTRY, 3])
        self.assertEqual(ledger.numbered(), [(3, ENTRY)])

    def test_change_keeps_number_and_place(self):
        ledger = Ledger.of([ENTRY, STATEMENT, OTHER_ENTRY])
        self.assertEqual(ledger.change(0, OTHER_ENTRY), ENTRY)
        self.assertEqual(ledger.numbered(), [(0, OTHER_ENTRY), (1, STATEMENT), (2, OTHER_ENTRY)])
        self.assertEqual(ledger.next_number, 3)
        self.assertEqual(ledger.change(0, OTHER_ENTRY), OTHER_ENTRY)

    def test_items_at_the_edges(self):
        for item in EDGE_ITEMS:
            with self.subTest(item=item):
                ledger = Ledger()
                self.assertEqual(ledger.add(item), 0)
                self.assertEqual(ledger.numbered(), [(0, item)])
                self.assertEqual(ledger.change(0, item), item)
                self.assertEqual(ledger.drop(0), item)

    def test_full_ledgers(self):
        ledger = filled(6, 24)
        self.assertEqual(repr(ledger), "Ledger(6, 24)")
        self.assertEqual(ledger.change(3, OTHER_ENTRY), ("entry", 0, 4, THIRDS))
        self.assertEqual(ledger.change(29, STATEMENT), ("statement", 23, 1, 0))
        ledger.drop(0)
        self.assertEqual(ledger.add(ENTRY), 30)
        ledger.drop(29)
        self.assertEqual(ledger.add(STATEMENT), 31)
        self.assertEqual(repr(ledger), "Ledger(6, 24)")

    def test_of_numbers_from_zero(self):
        items = [STATEMENT, ENTRY, STATEMENT]
        ledger = Ledger.of(items)
        self.assertEqual(ledger.numbered(), list(enumerate(items)))
        self.assertEqual(ledger.next_number, 3)
        self.assertIs(type(ledger), Ledger)
        items.append(ENTRY)
        self.assertEqual(len(ledger), 3)

    def test_walk_can_be_used_again(self):
        ledger = Ledger.of([ENTRY, STATEMENT])
        walk = ledger.walk()
        self.assertEqual(next(walk), (0, ENTRY))
        self.assertEqual(list(ledger.walk()), [(0, ENTRY), (1, STATEMENT)])
        self.assertEqual(list(walk), [(1, STATEMENT)])
        self.assertEqual(list(walk), [])


class Lists(unittest.TestCase):
    def test_returned_lists_are_new(self):
        ledger = Ledger.of([ENTRY, STATEMENT, OTHER_ENTRY, OTHER_STATEMENT])
        before = state(ledger)
        for method in (ledger.numbered, ledger.entries, ledger.statements):
            first = method()
            self.assertIs(type(first), list)
            self.assertIsNot(first, method())
            first.reverse()
            first.append(ENTRY)
            self.assertEqual(state(ledger), before)

    def test_copies_share_nothing(self):
        ledger = Ledger.of([ENTRY, STATEMENT])
        ledger.drop(ledger.add(STATEMENT))
        twin = ledger.copy()
        before = state(ledger)
        self.assertEqual(state(twin), before)
        self.assertEqual(twin.add(OTHER_ENTRY), 3)
        twin.drop(0)
        twin.change(1, OTHER_STATEMENT)
        self.assertEqual(state(ledger), before)
        self.assertEqual(twin.numbered(), [(1, OTHER_STATEMENT), (3, OTHER_ENTRY)])
        before = state(twin)
        ledger.drop(1)
        ledger.add(STATEMENT)
        self.assertEqual(state(twin), before)

    def test_new_ledgers_share_nothing(self):
        one, other = Ledger(), Ledger()
        one.add(ENTRY)
        Model().check(self, other)
        Model().check(self, Ledger())


class Equal(unittest.TestCase):
    def check(self, one, other, expected):
        for left, right in ((one, other), (other, one)):
            self.assertIs(left == right, expected)
            self.assertIs(left != right, not expected)

    def test_whatever_the_numbers_and_the_order(self):
        drawn = random.Random(22)
        for _ in range(100):
            items = [draw_entry(drawn, 9) for _ in range(drawn.randint(0, 6))]
            items += [("statement", *draw_stretch(drawn, 3), drawn.randint(0, 1)) for _ in range(drawn.randint(0, 20))]
            mixed = Ledger()
            for item in drawn.sample(items, len(items)):
                if drawn.random() < 0.5:
                    mixed.drop(mixed.add(STATEMENT))
                mixed.add(item)
            ledger = Ledger.of(items)
            self.check(ledger, mixed, True)
            if items:
                mixed.drop(drawn.choice(mixed.numbered())[0])
                self.check(ledger, mixed, False)

    def test_as_often_each(self):
        self.check(Ledger.of([STATEMENT, STATEMENT]), Ledger.of([STATEMENT]), False)
        twice = Ledger.of([STATEMENT, STATEMENT, OTHER_STATEMENT])
        self.check(twice, Ledger.of([OTHER_STATEMENT, STATEMENT, STATEMENT]), True)
        self.check(twice, Ledger.of([STATEMENT, OTHER_STATEMENT, OTHER_STATEMENT]), False)

    def test_what_was_there_before_does_not_matter(self):
        ledger = Ledger.of([ENTRY, STATEMENT])
        ledger.drop(0)
        ledger.change(1, OTHER_STATEMENT)
        self.check(ledger, Ledger.of([OTHER_STATEMENT]), True)
        ledger.drop(1)
        self.check(ledger, Ledger(), True)

    def test_the_same_amounts_are_not_the_same_items(self):
        self.check(Ledger.of([("entry", 0, 2, THIRDS)]), Ledger.of([("entry", 0, 2, THIRDS * 2)]), False)
        self.check(Ledger.of([ENTRY]), Ledger.of([STATEMENT]), False)
        self.check(Ledger(), Ledger.of([("entry", 0, 1, ((0, 1),))]), False)

    def test_other_kinds(self):
        for ledger in (Ledger(), Ledger.of([ENTRY])):
            for thing in NOT_INTEGERS + (0, 1, ledger.numbered(), ledger.entries(), repr(ledger), Ledger, object()):
                self.assertIs(ledger == thing, False)
                self.assertIs(ledger != thing, True)


class Errors(unittest.TestCase):
    def setUp(self):
        self.ledger = Ledger.of([ENTRY, STATEMENT, OTHER_STATEMENT])
        self.ledger.drop(2)
        self.full = filled(6, 24)

    def check(self, ledger, kind, attributes, method, *args, **more):
        before = state(ledger)
        check_raises(self, kind, attributes, getattr(ledger, method), *args, **more)
        self.assertEqual(state(ledger), before)

    def test_no_item_to_add(self):
        for thing, part in NOT_ITEMS:
            for ledger in (self.ledger, self.full):
                with self.subTest(thing=thing):
                    self.check(ledger, BadItem, {"part": part}, "add", thing)
                    self.check(ledger, BadItem, {"part": part}, "add", item=thing)

    def test_no_item_to_change_to(self):
        for thing, part in NOT_ITEMS:
            for number in (0, 1):
                with self.subTest(thing=thing):
                    self.check(self.ledger, BadItem, {"part": part}, "change", number, thing)
                    self.check(self.ledger, BadItem, {"part": part}, "change", item=thing, number=number)

    def test_no_number(self):
        things = NOT_INTEGERS + (-1, 2, 3, 4, LAST, BIGGEST, -BIGGEST)
        for thing in things:
            with self.subTest(thing=thing):
                self.check(self.ledger, NoItem, {"number": thing}, "drop", thing)
                self.check(self.ledger, NoItem, {"number": thing}, "change", thing, STATEMENT)
                self.check(self.ledger, NoItem, {"number": thing}, "change", thing, ("entry",))
                self.check(self.ledger, NoItem, {"number": thing}, "change", thing, None)

    def test_nothing_in_an_empty_ledger(self):
        for number in (0, 1, -1, False):
            self.check(Ledger(), NoItem, {"number": number}, "drop", number)
            self.check(Ledger(), NoItem, {"number": number}, "change", number, ENTRY)

    def test_other_kind(self):
        self.check(self.ledger, OtherKind, {}, "change", 0, STATEMENT)
        self.check(self.ledger, OtherKind, {}, "change", 1, ENTRY)
        self.check(self.full, OtherKind, {}, "change", 5, STATEMENT)
        self.check(self.full, OtherKind, {}, "change", 6, ENTRY)

    def test_full(self):
        self.check(self.full, Full, {"most": 6}, "add", ENTRY)
        self.check(self.full, Full, {"most": 24}, "add", STATEMENT)
        entries, statements = filled(6, 23), filled(5, 24)
        self.check(entries, Full, {"most": 6}, "add", ENTRY)
        self.check(statements, Full, {"most": 24}, "add", STATEMENT)
        self.assertEqual([entries.add(STATEMENT), statements.add(ENTRY)], [29, 29])

    def test_of_raises_as_adding_would(self):
        statements = [STATEMENT] * 24
        check_raises(self, Full, {"most": 6}, Ledger.of, [ENTRY] * 7)
        check_raises(self, Full, {"most": 24}, Ledger.of, [*statements, ENTRY, STATEMENT])
        check_raises(self, BadItem, {"part": 2}, Ledger.of, [ENTRY, ("statement", 0, 0, 1), None])
        check_raises(self, Full, {"most": 6}, Ledger.of, [ENTRY] * 7 + [None])
        check_raises(self, BadItem, {"part": 0}, Ledger.of, [ENTRY] * 6 + [None, ENTRY])
        for thing, part in NOT_ITEMS:
            check_raises(self, BadItem, {"part": part}, Ledger.of, [STATEMENT, thing])

    def test_an_error_uses_up_no_number(self):
        ledger = Ledger()
        for thing, _ in NOT_ITEMS[:20]:
            with self.assertRaises(BadItem):
                ledger.add(thing)
        self.assertEqual([ledger.next_number, ledger.add(ENTRY)], [0, 0])

    def test_later_changes_do_not_reach_the_error(self):
        thing = [1, [2]]
        with self.assertRaises(NoItem) as caught:
            self.ledger.drop(thing)
        thing[1].append(3)
        self.assertEqual(caught.exception.number, [1, [2]])


if __name__ == "__main__":
    unittest.main()
