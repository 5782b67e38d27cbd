import inspect
import random
import unittest
from fractions import Fraction

from plain import draw_entry, draw_stretch
from ring import draw_told
from samples import BIGGEST, LAST, NOT_INTEGERS, ODD_THINGS, THIRDS, check_raises
from test_texts import NOT_AMOUNT, NOT_FIRST, NOT_MANY, NOT_NATURAL, NOT_NUMBER

from onecut.clashes import clash, repair
from onecut.desk import Desk
from onecut.entries import exact
from onecut.errors import BadRow, Full, NoItem, NothingDone, OtherKind
from onecut.ledger import Ledger
from onecut.left import average, left, numbers
from onecut.texts import item_text

QUESTIONS = ("items", "left", "clash", "repair", "exact 0 9", "possible 1 2", "average 1 1", "possible 3 1")
DAYS = 9


def text(one):
    return str(Fraction(*one))


def answer(ledger, row):
    """What a desk with this ledger should say, by the functions that the document names."""
    name, *rest = row.split(" ")
    stretch = tuple(map(int, rest))
    if name == "items":
        return " ; ".join(f"{number}:{item_text(item)}" for number, item in ledger.numbered()) or "none"
    if name == "left":
        return " ".join(f"{text(low)}..{text(high)}" for low, high in left(ledger)) or "none"
    if name == "clash":
        return " ".join(map(str, clash(ledger) or ())) or "none"
    if name == "repair":
        dropped, cut = repair(ledger)
        return " ".join([text(cut), *map(str, dropped)])
    if name == "possible":
        return " ".join(map(str, numbers(ledger, stretch))) or "none"
    if name == "average":
        found = average(ledger, stretch)
        return "none" if found is None else text(found)
    return text(exact(ledger.entries(), stretch))


def desk_with(*rows):
    desk = Desk()
    for row in rows:
        desk.say(row)
    return desk


def seen(desk):
    """All that can be asked; the next number is seen by an add that is taken back."""
    said = [desk.say(row) for row in QUESTIONS]
    for row in ("add statement 0 1 0", "add entry 0 1 1"):
        try:
            said.append(desk.say(row))
            desk.say("undo")
        except Full:
            said.append("full")
    return said


class Interface(unittest.TestCase):
    def test_names_of_parameters(self):
        self.assertEqual(list(inspect.signature(Desk).parameters), [])
        self.assertEqual(list(inspect.signature(Desk.say).parameters), ["self", "row"])
        self.assertIn("say", vars(Desk))
        self.assertEqual(Desk.__module__, "onecut.desk")

    def test_calls_by_name(self):
        self.assertEqual(Desk().say(row="left"), "0..1")

    def test_desks_share_nothing(self):
        one, other = Desk(), Desk()
        one.say("add entry 0 3 1/3")
        self.assertEqual([other.say("items"), other.say("add statement 0 1 0"), one.say("items")],
                         ["none", "0", "0:entry 0 3 1/3"])
        other.say("undo")
        check_raises(self, NothingDone, {}, other.say, "undo")
        self.assertEqual(one.say("undo"), "ok")


class Answers(unittest.TestCase):
    def test_an_empty_desk(self):
        self.assertEqual([Desk().say(row) for row in QUESTIONS],
                         ["none", "0..1", "none", "0", "0", "0", "0", "0"])

    def test_by_hand(self):
        desk = desk_with("add entry 0 3 1/3", "add statement 0 1 0", "add statement 1 1 0")
        self.assertEqual(desk.say("items"), "0:entry 0 3 1/3 ; 1:statement 0 1 0 ; 2:statement 1 1 0")
        rows = ("left", "clash", "repair", "exact 1 1", "possible 2 1", "average 1 2")
        self.assertEqual([desk.say(row) for row in rows], ["0..1/3", "none", "0", "1/3", "1", "1"])
        self.assertEqual(desk.say("add statement 2 1 0"), "3")
        self.assertEqual([desk.say(row) for row in rows], ["none", "1 2 3", "0 3", "1/3", "none", "none"])
        self.assertEqual(desk.say("change 3 statement 0 1 1"), "ok")
        self.assertEqual([desk.say("clash"), desk.say("repair")], ["1 3", "0 3"])
        self.assertEqual([desk.say("drop 1"), desk.say("repair"), desk.say("left")], ["ok", "2/3", "2/3..1"])
        self.assertEqual([desk.say("drop 3"), desk.say("left")], ["ok", "0..1/3 2/3..1"])
        self.assertEqual([desk.say("change 0 entry 0 9 -1/4 1/2"), desk.say("items")],
                         ["ok", "0:entry 0 9 -1/4 1/2 ; 2:statement 1 1 0"])
        self.assertEqual([desk.say("exact 0 1"), desk.say("possible 0 1"), desk.say("average 0 1")],
                         ["-1/4", "0", "0"])

    def test_cuts_that_are_not_0(self):
        desk = desk_with("add entry 0 9 1/4", "add statement 0 1 1", "add statement 1 1 1", "add statement 1 1 1")
        self.assertEqual([desk.say("repair"), desk.say("clash")], ["1/2 1", "1 2"])

    def test_far_days(self):
        desk = desk_with(f"add entry 0 {LAST} 1/3", f"add statement {LAST - 1} 1 0")
        self.assertEqual([desk.say(f"exact 0 {LAST}"), desk.say(f"possible 1 {LAST - 1}")],
                         [f"{LAST}/3", f"{LAST // 3}"])
        self.assertEqual(desk.say(f"possible {LAST - 1} 1"), "0")


class AgainstLedgers(unittest.TestCase):
    """Drawn rows, against a plain ledger of which a copy is kept before each deed."""

    def draw_row(self, drawn, ledger):
        present = [number for number, _ in ledger.numbered()] or [0]
        number = drawn.choice(present + present + [ledger.next_number, drawn.randrange(40)])
        entries = ledger.entries() or [("entry", 0, 9, THIRDS)]
        item = draw_entry(drawn, DAYS) if drawn.random() < 0.4 else draw_told(drawn, entries, DAYS, 1)[0]
        return drawn.choice((f"add {item_text(item)}",) * 5 + (f"change {number} {item_text(item)}",) * 2 + (
            f"drop {number}", f"drop {number}", "undo", "undo", drawn.choice(QUESTIONS),
            "possible {} {}".format(*draw_stretch(drawn, DAYS)), "add statement 0 1 x", "undo undo"))

    def do(self, ledger, row):
        """Does to the ledger what the row says; the answer, or the error's kind."""
        name, *words = row.split(" ")
        try:
            if name == "drop":
                ledger.drop(int(words[0]))
                return "ok"
            if name == "change":
                ledger.change(int(words[0]), self.item(words[1:]))
                return "ok"
            return str(ledger.add(self.item(words)))
        except (NoItem, OtherKind, Full) as error:
            return type(error)

    def item(self, words):
        kind, first, many, *last = words
        if kind == "statement":
            return (kind, int(first), int(many), int(last[0]))
        amounts = [Fraction(word) for word in last]
        return (kind, int(first), int(many), tuple((one.numerator, one.denominator) for one in amounts))

    def step(self, desk, kept, row, kinds):
        """Says the row, and compares; kept are the ledgers up to now, of which the last one is the present."""
        name = row.split(" ")[0]
        if row in ("undo undo", "add statement 0 1 x"):
            check_raises(self, BadRow, {"place": 1 if name == "undo" else 4}, desk.say, row)
        elif row == "undo" and len(kept) == 1:
            check_raises(self, NothingDone, {}, desk.say, row)
        elif row == "undo":
            self.assertEqual(desk.say(row), "ok")
            kept.pop()
            kinds.append("undo")
        elif name in ("add", "drop", "change"):
            after = kept[-1].copy()
            expected = self.do(after, row)
            if isinstance(expected, str):
                self.assertEqual(desk.say(row), expected)
                kept.append(after)
            else:
                with self.assertRaises(expected):
                    desk.say(row)
            kinds.append(name if isinstance(expected, str) else expected)
        else:
            self.assertEqual(desk.say(row), answer(kept[-1], row))

    def test_drawn_rows(self):
        drawn = random.Random(141)
        kinds = []
        for _ in range(60):
            desk, kept = Desk(), [Ledger()]
            for _ in range(drawn.randint(1, 80)):
                row = self.draw_row(drawn, kept[-1])
                self.step(desk, kept, row, kinds)
                question = drawn.choice(QUESTIONS)
                self.assertEqual(desk.say(question), answer(kept[-1], question))
                if drawn.random() < 0.1:
                    self.assertEqual(seen(desk)[:len(QUESTIONS)], [answer(kept[-1], row) for row in QUESTIONS])
            # All is taken back in the end.
            while len(kept) > 1:
                kept.pop()
                desk.say("undo")
                self.assertEqual(desk.say("items"), answer(kept[-1], "items"))
            check_raises(self, NothingDone, {}, desk.say, "undo")
            self.assertEqual(desk.say("add statement 0 1 0"), "0")
        for kind in ("add", "drop", "change", "undo", NoItem, OtherKind, Full):
            self.assertGreater(kinds.count(kind), 2, kind)


class Undo(unittest.TestCase):
    START = ("add entry 0 3 1/3", "add statement 0 1 0", "add statement 1 1 0", "drop 1")

    def test_undo_after_each_kind_of_deed(self):
        desk = desk_with(*self.START)
        before = seen(desk)
        for row, said in (("add statement 2 1 1", "3"), ("add entry 5 1 1/2", "3"), ("drop 2", "ok"), ("drop 0", "ok"),
                          ("change 2 statement 0 1 1", "ok"), ("change 0 entry 1 1 2", "ok")):
            self.assertEqual(desk.say(row), said)
            self.assertNotEqual(seen(desk), before)
            self.assertEqual(desk.say("undo"), "ok")
            self.assertEqual(seen(desk), before)

    def test_the_next_number_is_taken_back(self):
        desk = desk_with("add statement 0 1 0")
        self.assertEqual([desk.say(row) for row in ("add statement 1 1 0", "undo", "add statement 2 1 0")],
                         ["1", "ok", "1"])
        # It is not after a drop alone.
        self.assertEqual([desk.say(row) for row in ("drop 1", "add statement 3 1 0", "undo", "undo", "items")],
                         ["ok", "2", "ok", "ok", "0:statement 0 1 0 ; 1:statement 2 1 0"])
        self.assertEqual(desk.say("add statement 3 1 0"), "2")

    def test_order_of_items_after_a_drop_taken_back(self):
        desk = desk_with("add statement 0 1 0", "add statement 1 1 0", "add statement 2 1 0", "drop 0", "undo")
        self.assertEqual(desk.say("items"), "0:statement 0 1 0 ; 1:statement 1 1 0 ; 2:statement 2 1 0")

    def test_all_the_way(self):
        desk = desk_with(*self.START)
        items = []
        for _ in self.START:
            items.append(desk.say("items"))
            desk.say("undo")
        self.assertEqual(items, ["0:entry 0 3 1/3 ; 2:statement 1 1 0",
                                 "0:entry 0 3 1/3 ; 1:statement 0 1 0 ; 2:statement 1 1 0",
                                 "0:entry 0 3 1/3 ; 1:statement 0 1 0", "0:entry 0 3 1/3"])
        for _ in range(3):
            check_raises(self, NothingDone, {}, desk.say, "undo")
        self.assertEqual(seen(desk), seen(Desk()))

    def test_what_is_no_deed_is_not_taken_back(self):
        desk = desk_with("add entry 0 3 1/3", "add statement 0 1 0")
        for row, kind in (("drop 7", NoItem), ("change 7 statement 0 1 0", NoItem), ("nothing", BadRow),
                          ("change 0 statement 0 1 0", OtherKind)):
            with self.assertRaises(kind):
                desk.say(row)
        for row in QUESTIONS:
            desk.say(row)
        desk.say("undo")
        self.assertEqual(desk.say("items"), "0:entry 0 3 1/3")

    def test_an_undo_is_not_taken_back(self):
        desk = desk_with("add statement 0 1 0", "add statement 1 1 0", "undo", "undo")
        self.assertEqual(desk.say("items"), "none")
        check_raises(self, NothingDone, {}, desk.say, "undo")

    def test_a_change_to_the_same_item_is_a_deed(self):
        desk = desk_with("add statement 0 1 0", "change 0 statement 0 1 0", "undo")
        self.assertEqual(desk.say("items"), "0:statement 0 1 0")


class BadRows(unittest.TestCase):
    def setUp(self):
        self.desk = desk_with("add entry 0 3 1/3", "add statement 0 1 0")
        self.before = seen(self.desk)

    def tearDown(self):
        self.assertEqual(seen(self.desk), self.before)
        self.assertEqual([self.desk.say("undo"), self.desk.say("undo")], ["ok", "ok"])

    def check(self, place, row):
        check_raises(self, BadRow, {"place": place}, self.desk.say, row)

    def test_no_strings(self):
        for thing in NOT_INTEGERS + ODD_THINGS + (0, 1, BIGGEST, ["items"], ("left",)):
            if not isinstance(thing, str):
                self.check(0, thing)

    def test_first_words(self):
        for word in ("", "Add", "UNDO", "Items", "lefts", "entry", "statement", "0", "redo", "none", "ok", "x" * 4000):
            for rest in ("", " ", " 0", " 0 1", " statement 0 1 0", " 1 statement 0 1 0"):
                self.check(0, word + rest)

    def test_words_that_stand_alone(self):
        for word in ("undo", "items", "left", "clash", "repair"):
            for rest in ("", "0", "0 1", "x", word, " "):
                self.check(1, f"{word} {rest}")

    def test_stretches(self):
        for name in ("exact", "possible", "average"):
            for after in ("", " 1", " x", " 1 2"):
                for word in NOT_FIRST:
                    self.check(1, f"{name} {word}{after}")
                for word in NOT_MANY:
                    self.check(2, f"{name} 0 {word}{after}")
            for after in ("", "0", "x", " "):
                self.check(3, f"{name} 0 1 {after}")
            self.check(1, name)
            self.check(2, f"{name} 0")
            self.check(2, f"{name} 1 {LAST}")
            self.check(2, f"{name} {LAST - 1} 2")
            self.check(1, f"{name} {LAST} 1")
            self.check(1, f"{name} {LAST} 0")

    def test_numbers(self):
        for word in NOT_NATURAL:
            for after in ("", " statement 0 1 0", " x"):
                self.check(1, f"drop {word}{after}")
                self.check(1, f"change {word}{after}")
        self.check(1, "drop")
        self.check(1, "change")
        for after in ("", "0", "statement 0 1 0"):
            self.check(2, f"drop 1 {after}")
            self.check(2, f"drop 99 {after}")

    def test_items(self):
        for before, at in (("add", 1), ("change 1", 2), ("change 99", 2), ("change " + "9" * 100, 2)):
            self.check(at, before)
            for word in ("", "Entry", "0", "item", "add", "x" * 3000):
                self.check(at, f"{before} {word}")
                self.check(at, f"{before} {word} 0 1 0")
            for kind in ("entry", "statement"):
                self.check(at + 1, f"{before} {kind}")
                self.check(at + 2, f"{before} {kind} 0")
                self.check(at + 3, f"{before} {kind} 0 1")
                self.check(at + 3, f"{before} {kind} 0 1 ")
                for word in NOT_FIRST:
                    self.check(at + 1, f"{before} {kind} {word} 1 0")
                for word in NOT_MANY:
                    self.check(at + 2, f"{before} {kind} 0 {word} 0")
            for word in NOT_NUMBER:
                self.check(at + 3, f"{before} statement 0 1 {word}")
            for word in NOT_AMOUNT:
                self.check(at + 4, f"{before} entry 0 1 1/2 {word}")
            self.check(at + 4, f"{before} statement 0 1 0 0")
            self.check(at + 7, f"{before} entry 0 1 0 0 0 0 0")
            self.check(at + 3, f"{before} entry 0 6 2/4")

    def test_blanks(self):
        for row in ("undo", "left", "exact 0 1", "drop 1", "add statement 0 1 0", "change 1 entry 0 1 1/3 1/4"):
            words = row.split(" ")
            for at in range(len(words) + 1):
                self.check(at, " ".join(words[:at] + [""] + words[at:]))
            self.check(0, row.replace(" ", "\t") + "\t")


class OtherErrors(unittest.TestCase):
    def test_no_item(self):
        desk = desk_with("add entry 0 3 1/3", "add statement 0 1 0", "drop 1")
        before = seen(desk)
        for number in (1, 2, 99, BIGGEST):
            check_raises(self, NoItem, {"number": number}, desk.say, f"drop {number}")
            check_raises(self, NoItem, {"number": number}, desk.say, f"change {number} statement 0 1 0")
            check_raises(self, NoItem, {"number": number}, desk.say, f"change {number} entry 0 1 0")
        self.assertEqual(seen(desk), before)

    def test_other_kind(self):
        desk = desk_with("add entry 0 3 1/3", "add statement 0 1 0")
        before = seen(desk)
        check_raises(self, OtherKind, {}, desk.say, "change 0 statement 0 1 0")
        check_raises(self, OtherKind, {}, desk.say, "change 1 entry 0 1 0")
        self.assertEqual(seen(desk), before)

    def test_full(self):
        desk = Desk()
        for number in range(6):
            self.assertEqual(desk.say(f"add entry {number} 1 1/6"), str(number))
        for number in range(24):
            self.assertEqual(desk.say(f"add statement {number} 1 0"), str(number + 6))
        before = seen(desk)
        check_raises(self, Full, {"most": 6}, desk.say, "add entry 0 1 0")
        check_raises(self, Full, {"most": 24}, desk.say, "add statement 0 1 0")
        check_raises(self, BadRow, {"place": 4}, desk.say, "add statement 0 1 0/1")
        self.assertEqual(desk.say("change 0 entry 9 1 0"), "ok")
        self.assertEqual(desk.say("undo"), "ok")
        self.assertEqual(seen(desk), before)
        self.assertEqual([desk.say("drop 0"), desk.say("add entry 0 1 0"), desk.say("undo"), desk.say("undo")],
                         ["ok", "30", "ok", "ok"])
        self.assertEqual(seen(desk), before)
        self.assertEqual(before[-2:], ["full", "full"])


if __name__ == "__main__":
    unittest.main()
