import inspect
import random
import unittest
from fractions import Fraction

from plain import draw_ratio, ratio
from samples import (BIG, BIGGEST, EDGE_ITEMS, LAST, NOT_INTEGERS, NOT_ITEMS, ODD_THINGS, THIRDS, check_raises,
                     check_untouched)

from onecut import texts as module
from onecut.errors import BadItem, BadText
from onecut.texts import item_text, read_item

# Words that are no integer from 0 on, wherever one should stand.
NOT_NATURAL = (
    "", "-", "-1", "-0", "+1", "00", "01", "007", "0x1", "1_0", "1.0", "1e3", "one", "1/1", "0/1", "4/2", "(1)", "1,",
    "'1'", "None", "True", "entry", "statement", "1" + "0" * 100, "9" * 101, "0" * 100, "0" * 4000, "1" * 3900, "~",
)
NOT_FIRST = NOT_NATURAL + (str(LAST), str(LAST + 1), str(BIGGEST))
NOT_MANY = NOT_NATURAL + ("0", str(LAST + 1), str(BIGGEST))
NOT_NUMBER = tuple(word for word in NOT_NATURAL if word != "-1") + ("--1", "-01", "-00", "1-", "-" + "9" * 101)
NOT_AMOUNT = tuple(word for word in NOT_NATURAL if word != "-1") + (
    "2/4", "1/1", "-1/1", "0/1", "0/5", "-0/5", "1/0", "1/-3", "-1/-3", "1/+3", "1/03", "01/3", "1//3", "1/3/5", "/3",
    "1/", "/", "1/x", "1000001", "-1000001", "1/1000001", "1000001/2", "3/6", "10/5", "1.5", "1:3",
    "1" * 101 + "/3", "1/" + "1" * 101, "1/" + "3" * 100, "-", "--1/3", "1\\3",
)


def draw_item(drawn):
    first = drawn.randrange(10 ** drawn.randint(1, 30))
    many = drawn.randint(1, min(LAST - first, 10 ** drawn.randint(1, 30)))
    if drawn.random() < 0.5:
        return ("statement", first, many, drawn.randint(-10 ** drawn.randint(1, 99), 10 ** drawn.randint(1, 99)))
    top = drawn.choice((3, 10 ** 6))
    return ("entry", first, many, tuple(draw_ratio(drawn, top, top) for _ in range(drawn.randint(1, 4))))


def plain_text(item):
    kind, first, many, last = item
    words = [str(Fraction(*one)) for one in last] if kind == "entry" else [f"{last}"]
    return " ".join([kind, f"{first}", f"{many}", *words])


class Interface(unittest.TestCase):
    def test_names_of_parameters(self):
        for name, parameter in (("item_text", "item"), ("read_item", "text")):
            function = getattr(module, name)
            self.assertEqual(list(inspect.signature(function).parameters), [parameter])
            self.assertEqual(function.__module__, "onecut.texts")

    def test_calls_by_name(self):
        self.assertEqual(item_text(item=("statement", 0, 1, -7)), "statement 0 1 -7")
        self.assertEqual(read_item(text="statement 0 1 -7"), ("statement", 0, 1, -7))


class ThereAndBack(unittest.TestCase):
    def test_drawn_items(self):
        drawn = random.Random(131)
        for _ in range(1500):
            item = draw_item(drawn)
            text = check_untouched(self, item_text, item)
            self.assertEqual(text, plain_text(item))
            again = read_item(text)
            self.assertEqual(again, item)
            self.assertEqual(repr(again), repr(item))

    def test_edges(self):
        for item in EDGE_ITEMS:
            self.assertEqual(item_text(item), plain_text(item))
            self.assertEqual(read_item(item_text(item)), item)

    def test_by_hand(self):
        for item, text in (
            (("entry", 0, 6, ((1, 3), (-2, 1))), "entry 0 6 1/3 -2"),
            (("entry", 7, 1, ((0, 1), (-1, 2), (10 ** 6, 999999), (-10 ** 6, 1))),
             "entry 7 1 0 -1/2 1000000/999999 -1000000"),
            (("statement", 4, 2, -1), "statement 4 2 -1"),
            (("statement", LAST - 1, 1, 0), f"statement {LAST - 1} 1 0"),
            (("statement", 0, LAST, BIGGEST), f"statement 0 {LAST} {BIGGEST}"),
            (("statement", 0, LAST, -BIGGEST), f"statement 0 {LAST} -{BIGGEST}"),
        ):
            self.assertEqual([item_text(item), read_item(text)], [text, item])

    def test_numbers_are_written_in_full(self):
        # A statement may hold more digits than a text that is read.
        number = 10 ** 300 + 1
        self.assertEqual(item_text(("statement", 0, 1, number)), f"statement 0 1 {number}")
        self.assertEqual(item_text(("statement", 0, 1, BIG)), f"statement 0 1 {BIG}")
        check_raises(self, BadText, {"place": 3}, read_item, f"statement 0 1 {number}")


class BadItems(unittest.TestCase):
    def test_no_items(self):
        for thing, part in NOT_ITEMS:
            check_raises(self, BadItem, {"part": part}, item_text, thing)


class BadTexts(unittest.TestCase):
    def check(self, place, text):
        check_raises(self, BadText, {"place": place}, read_item, text)

    def test_no_strings(self):
        for thing in NOT_INTEGERS + ODD_THINGS + (0, 1, BIGGEST, ("entry", 0, 1, THIRDS), ["statement 0 1 0"]):
            if not isinstance(thing, str):
                self.check(0, thing)

    def test_first_words(self):
        for word in ("", "Entry", "ENTRY", "entry,", "entries", "statements", "stat", "statement:", "0", "add", "none",
                     "'entry'", "x" * 4000):
            for rest in ("", " ", " 0", " 0 1", " 0 1 0", " 0 1 1/3", " x y z w", " " * 100):
                self.check(0, word + rest)

    def test_each_word_wrong(self):
        for kind in ("entry", "statement"):
            for after in ("", " 1", " 1 0", " x", " 0 0", " 1 0 0 0 0 0 0"):
                for word in NOT_FIRST:
                    self.check(1, f"{kind} {word}{after}")
                for word in NOT_MANY:
                    self.check(2, f"{kind} 0 {word}{after}")
        for word in NOT_NUMBER:
            self.check(3, f"statement 0 1 {word}")
            self.check(3, f"statement 0 1 {word} 5")
        for word in NOT_AMOUNT:
            for before in range(4):
                self.check(3 + before, " ".join(["entry 0 1"] + ["1/3"] * before + [word]))
                self.check(3 + before, " ".join(["entry 0 1"] + ["1/3"] * before + [word, "1/2"]))
        # A statement's number is an integer.
        self.check(3, "statement 0 1 1/3")

    def test_stretches_beyond_the_last_day(self):
        for kind in ("entry", "statement"):
            self.check(1, f"{kind} {LAST} 1 0")
            self.check(1, f"{kind} {LAST}")
            self.check(2, f"{kind} {LAST - 1} 2 0")
            self.check(2, f"{kind} 1 {LAST} 0")
            self.check(2, f"{kind} {LAST // 2} {LAST // 2 + 1} 0")
            self.assertEqual(read_item(f"{kind} {LAST - 1} 1 0")[1], LAST - 1)
            self.assertEqual(read_item(f"{kind} 0 {LAST} 0")[2], LAST)

    def test_missing_words(self):
        for kind in ("entry", "statement"):
            words = [kind, "5", "2"]
            for many in range(1, 4):
                self.check(many, " ".join(words[:many]))
                # A blank at the end begins an empty word.
                self.check(many, " ".join(words[:many]) + " ")
                self.check(many, " ".join(words[:many]) + "  ")
        self.check(0, "")
        self.check(0, " ")

    def test_words_too_many(self):
        self.check(4, "statement 0 1 0 0")
        self.check(4, "statement 0 1 0 ")
        self.check(4, "statement 0 1 0 x y")
        self.check(7, "entry 0 1 1/3 1/3 1/3 1/3 1/3")
        self.check(7, "entry 0 1 1 1 1 1 x")
        self.check(7, "entry 0 1 1 1 1 1 ")
        self.check(4, "entry 0 1 1 ")
        self.check(4, "entry 0 1 1 statement")

    def test_blanks(self):
        drawn = random.Random(132)
        for _ in range(200):
            words = plain_text(draw_item(drawn)).split(" ")
            at = drawn.randrange(len(words) + 1)
            # One blank too many makes an empty word.
            self.check(at, " ".join(words[:at] + [""] + words[at:]))
        for sign in ("\t", "\n", "_", ","):
            self.check(0, f"statement{sign}0 1 0")
            self.check(1, f"statement 0{sign}1 0")
            self.check(3, f"statement 0 1 0{sign}")

    def test_the_first_wrong_word_counts(self):
        drawn = random.Random(133)
        for _ in range(1000):
            item = draw_item(drawn)
            words = plain_text(item).split(" ")
            if item[0] == "entry" and drawn.random() < 0.5:
                words += ["1/3"] * 4
            wrong = {0: ("statment", ""), 1: NOT_FIRST, 2: NOT_MANY}
            at = drawn.randrange(len(words))
            choices = wrong.get(at, NOT_NUMBER if item[0] == "statement" else NOT_AMOUNT)
            words[at] = drawn.choice(choices)
            for later in range(at + 1, len(words)):
                if drawn.random() < 0.3:
                    words[later] = drawn.choice(("", "x", "0", "1/3", "-1"))
            limit = 7 if item[0] == "entry" else 4
            self.check(min(at, limit), " ".join(words))

    def test_100_digits(self):
        self.assertEqual(read_item("statement 0 1 " + "9" * 100), ("statement", 0, 1, BIGGEST))
        self.assertEqual(read_item("statement 0 1 -" + "9" * 100), ("statement", 0, 1, -BIGGEST))
        self.check(3, "statement 0 1 1" + "0" * 100)
        self.check(3, "statement 0 1 -1" + "0" * 100)
        self.check(1, "statement " + "9" * 100)
        self.check(2, "entry 0 " + "9" * 100)

    def test_ratio_texts(self):
        for word, one in (("0", (0, 1)), ("1", (1, 1)), ("-1", (-1, 1)), ("5/2", (5, 2)), ("-5/2", (-5, 2)),
                          ("1/1000000", (1, 10 ** 6)), ("999999/1000000", (999999, 10 ** 6)),
                          ("1000000", (10 ** 6, 1))):
            self.assertEqual(read_item(f"entry 0 1 {word}"), ("entry", 0, 1, (one,)))
            self.assertEqual(ratio(Fraction(word)), one)


if __name__ == "__main__":
    unittest.main()
