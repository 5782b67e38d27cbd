"""The sessions of the document, as they stand there, and those of README.md."""

import contextlib
import doctest
import io
import os
import unittest

# They continue each other.
SESSIONS = {
    "onecut.ratios": """
>>> from onecut.ratios import floor_of, is_ratio, lowest, plus, rest_of
>>> [lowest(4, -6), plus((1, 3), (1, 6)), floor_of((-1, 3)), rest_of((-1, 3)), is_ratio((2, 4))]
[(-2, 3), (1, 2), -1, (2, 3), False]
""",
    "onecut.spans": """
>>> from onecut.spans import arc, both, has, length, without
>>> arc((2, 3), (1, 3))
[((0, 1), (1, 3)), ((2, 3), (1, 1))]
>>> [without([((0, 1), (1, 1))], arc((2, 3), (1, 3))), length(arc((2, 3), (1, 3))), has(arc((2, 3), (1, 3)), (1, 3))]
[[((1, 3), (2, 3))], (2, 3), False]
""",
    "onecut.floors": """
>>> from onecut.floors import first_within, floor_sum, rests_within
>>> [floor_sum(4, 3, 1, 5), rests_within(10, 3, 1, 7, 5, 6), first_within(10, 3, 1, 7, 5, 6)]
[3, 2, 4]
""",
    "onecut.entries": """
>>> from onecut.entries import amount, exact, point, sum_before
>>> thirds = [("entry", 0, 6, ((1, 3), (1, 2))), ("entry", 1, 1, ((1, 6),))]
>>> [amount(thirds, 1), sum_before(thirds, 2), exact(thirds, (1, 3)), point(thirds, 1), amount(thirds, 6)]
[(2, 3), (1, 1), (3, 2), (2, 3), (0, 1)]
""",
    "onecut.ledger": """
>>> from onecut.ledger import Ledger
>>> ledger = Ledger()
>>> [ledger.add(("entry", 0, 3, ((1, 3),))), ledger.add(("statement", 0, 1, 1)), ledger.change(1, ("statement", 0, 1, 0))]
[0, 1, ('statement', 0, 1, 1)]
>>> [ledger.numbered()[1], len(ledger), repr(ledger), ledger.next_number, Ledger.MOST_ENTRIES]
[(1, ('statement', 0, 1, 0)), 2, 'Ledger(1, 1)', 2, 6]
>>> [Ledger.of([("statement", 0, 1, 0), ("entry", 0, 3, ((1, 3),))]) == ledger, list(ledger.walk())[0][0]]
[True, 0]
>>> ledger.add(("statement", 0, 0, 1))
raises BadItem(part=2)
""",
    "onecut.left": """
>>> from onecut.left import allowed, average, best, cut_for, left, numbers, together, told
>>> [left(ledger), numbers(ledger, (1, 1)), cut_for(ledger, (1, 1), 1), numbers(ledger, (0, 3))]
[[((0, 1), (2, 3))], [0, 1], (1, 3), [1]]
>>> [average(ledger, (1, 1)), together(ledger, [(1, 1), (2, 1)]), told(ledger, (2, 3), (0, 1))]
[(1, 2), [(0, 1), (1, 0)], 1]
>>> best(ledger, [((1, 1), 1, 5), ((2, 1), 1, 3), ((0, 3), 1, 1)])
(6, (1, 3))
""",
    "onecut.clashes": """
>>> from onecut.clashes import clash, repair
>>> bad = ledger.copy()
>>> [bad.add(("statement", 1, 1, 0)), clash(bad), bad.add(("statement", 2, 1, 0)), clash(bad), repair(bad)]
[2, None, 3, (1, 2, 3), ((3,), (0, 1))]
""",
    "onecut.records": """
>>> from onecut.records import needed, plan, record
>>> [len(record(ledger)), needed(ledger), record(Ledger())]
[1, (1,), []]
>>> [plan(ledger, 1), plan(ledger, 2)[0], plan(ledger, 2)[3]]
[('sure',), 'ask', ('sure',)]
""",
    "onecut.compare": """
>>> from onecut.compare import first_unlike, joined, joint_clash, parting
>>> other = Ledger()
>>> [other.add(("entry", 0, 2, ((1, 3),))), first_unlike(ledger, other), other.add(("entry", 2, 1, ((1, 3),)))]
[0, 2, 1]
>>> [first_unlike(ledger, other), other.add(("statement", 2, 1, 0)), joined(ledger, other), joint_clash(ledger, other)]
[None, 2, [((1, 3), (2, 3))], None]
>>> parting(ledger, ledger.copy())
""",
    "onecut.far": """
>>> from onecut.far import count_apart, count_unsure, first_apart, first_total, first_unsure
>>> long = Ledger()
>>> [long.add(("entry", 0, 10 ** 30, ((1, 3),))), long.add(("statement", 0, 1, 0))]
[0, 1]
>>> [first_unsure(long, 0), first_unsure(long, 0, since=10 ** 29), count_unsure(long, 0, 1, 9)]
[2, 100000000000000000000000000001, 3]
>>> [first_apart(long, (0, 1), (1, 2)), count_apart(long, (0, 1), (1, 2), 0, 9), first_total(long, (1, 2), 4)]
[2, 3, 11]
""",
    "onecut.papers, onecut.checker": """
>>> from onecut.checker import holds
>>> from onecut.papers import drop_paper, paper
>>> paper(ledger)
('fits', [('entry', 0, 3, ((1, 3),))], [('statement', 0, 1, 0)], (0, 1))
>>> [holds(paper(bad)), holds(drop_paper(bad)), holds(("fits", [], [("statement", 0, 1, 1)], (0, 1)))]
[True, True, False]
""",
    "onecut.texts": """
>>> from onecut.texts import item_text, read_item
>>> [item_text(("entry", 0, 6, ((1, 3), (-2, 1)))), read_item("statement 4 2 -1")]
['entry 0 6 1/3 -2', ('statement', 4, 2, -1)]
>>> read_item("entry 0 6 2/4")
raises BadText(place=3)
""",
    "onecut.desk": """
>>> from onecut.desk import Desk
>>> desk = Desk()
>>> [desk.say("add entry 0 3 1/3"), desk.say("add statement 0 1 0"), desk.say("left"), desk.say("possible 1 1")]
['0', '1', '0..2/3', '0 1']
>>> [desk.say("average 1 1"), desk.say("undo"), desk.say("items"), desk.say("left")]
['1/2', 'ok', '0:entry 0 3 1/3', '0..1']
""",
}


def printed(source, names):
    """What a line of a session prints; an error is written as the document writes it."""
    said = io.StringIO()
    try:
        with contextlib.redirect_stdout(said):
            exec(compile(source, "session", "single"), names)
    except Exception as error:
        attributes = ", ".join(f"{name}={value!r}" for name, value in vars(error).items())
        return f"raises {type(error).__name__}({attributes})\n"
    return said.getvalue()


class Examples(unittest.TestCase):
    def run_session(self, text, names):
        examples = doctest.DocTestParser().get_examples(text)
        self.assertTrue(examples)
        for example in examples:
            self.assertEqual(printed(example.source, names), example.want, example.source)

    def test_document(self):
        names = {}
        for title, text in SESSIONS.items():
            with self.subTest(title):
                self.run_session(text, names)

    def test_readme(self):
        path = os.path.join(os.path.dirname(os.path.abspath(__file__)), "..", "README.md")
        with open(path, encoding="ascii") as readme:
            self.run_session(readme.read().replace("```", ""), {})


if __name__ == "__main__":
    unittest.main()
