"""Values that several test files use."""

import copy

# 99 and 100 digits.
BIG = 10 ** 98 + 7
BIGGEST = 10 ** 100 - 1
# The greatest day.
LAST = 10 ** 30

# Things of every kind that is neither a ratio nor a set of cuts.
ODD_THINGS = (
    None, True, False, 0, 1, -1, BIGGEST, "", "(0, 1)", "1/3", "ab", [0, 1], [[0, 1]], (), (1,), (1, 2, 3),
    (None, None), ("1", "3"), ("1", 3), (1, "3"), ((1, 3), 1), (1, (3,)), ([1], 3), ((0, 1), (1, 1)),
)


def nested(depth, one):
    """A list nested in itself that many times, around one."""
    for _ in range(depth):
        one = [one]
    return one


# Things of every kind that is no integer, the largest and the deepest included.
NOT_INTEGERS = (
    None, True, False, "", "0", "1", "entry", "x" * 4000, (), (0,), (1, 3), ((0, 1), (1, 1)), [], [0], [[1]],
    ("statement", 0, 1, 0), (None, [True, ("a",)]), nested(19, 1), [0] * 4999,
)
NOT_DAYS = NOT_INTEGERS + (-1, -LAST, LAST + 1, BIGGEST, -BIGGEST)
NOT_STRETCHES = (
    None, True, False, 0, 1, -1, BIGGEST, "", "(0, 1)", "01", [0, 1], [(0, 1)], (), (0,), (0, 1, 2), ((0, 1),),
    ((0, 1), (1, 1)), ("0", 1), (0, "1"), (None, 1), (0, None), (True, 1), (False, 1), (0, True), (0, [1]), ([0], 1),
    ((0,), 1), (-1, 1), (-1, 2), (0, 0), (5, 0), (0, -1), (7, -3), (LAST, 0), (LAST, 1), (LAST - 1, 2), (0, LAST + 1),
    (1, LAST), (LAST + 1, 1), (LAST + 1, -1), (BIGGEST, 1), (0, BIGGEST), (BIGGEST, -BIGGEST), ("statement", 0, 1, 0),
    nested(19, (0, 1)), tuple([0] * 4999),
)
NOT_CUTS = ODD_THINGS + (
    (1, 1), (2, 1), (3, 2), (-1, 3), (-1, 1), (0, 2), (2, 4), (1, -3), (-1, -3), (1, 0), (0, 0), (0, -1), (True, 3),
    (1, True), (False, 1), (0, True), [1, 3], (BIGGEST, BIGGEST), (BIGGEST, BIG), nested(19, (1, 3)), "1/2",
    (1, 3, 5), ((1, 3), (1, 2)),
)
THIRDS = ((1, 3),)
# Things that are no items, and the first part that is wrong.
NOT_ITEMS = (
    *[(thing, 0) for thing in NOT_INTEGERS if thing != ("statement", 0, 1, 0)], (0, 0), (-1, 0), (BIGGEST, 0),
    (["entry", 0, 1, THIRDS], 0), (("entry",), 0), (("entry", 0, 1), 0), (("entry", 0, 1, THIRDS, 0), 0),
    (("statement", 0, 1), 0), (("statement", -1, 0, None, 1), 0), (("Entry", 0, 1, THIRDS), 0),
    (("entry ", 0, 1, THIRDS), 0), (("", 0, 1, 0), 0), ((None, 0, 1, 0), 0), ((True, 0, 1, 0), 0),
    (((), -1, 1, 0), 0), ((["entry"], 0, 1, THIRDS), 0), ((("statement",), 0, 1, 0), 0), ((0, 0, 1, 0), 0),
    *[(("entry", first, 1, THIRDS), 1) for first in NOT_DAYS],
    *[(("statement", first, 0, "x"), 1) for first in NOT_DAYS],
    *[(("entry", 0, many, THIRDS), 2) for many in NOT_INTEGERS],
    *[(("statement", 3, many, 0), 2) for many in NOT_INTEGERS],
    (("entry", 0, 0, THIRDS), 2), (("entry", 0, -1, ()), 2), (("entry", 0, LAST + 1, THIRDS), 2),
    (("entry", 1, LAST, THIRDS), 2), (("entry", LAST, 1, THIRDS), 2), (("entry", LAST, 0, THIRDS), 2),
    (("statement", LAST, 1, 0), 2), (("statement", LAST, "1", True), 2), (("statement", LAST, -1, 0), 2),
    (("statement", LAST - 1, 2, 0), 2), (("statement", 0, BIGGEST, 0), 2), (("statement", 7, -BIGGEST, None), 2),
    *[(("statement", 0, 1, number), 3) for number in NOT_INTEGERS],
    *[(("entry", 0, 1, (ratio,)), 3) for ratio in ODD_THINGS],
    *[(("entry", 0, 1, amounts), 3) for amounts in NOT_INTEGERS if amounts != ((0, 1), (1, 1))],
    (("entry", 0, 1, 0), 3), (("entry", 0, 1, 1), 3),
    (("entry", 0, 1, (1, 3)), 3), (("entry", 0, 1, [(1, 3)]), 3), (("entry", 0, 1, ([1, 3],)), 3),
    (("entry", 0, 1, ((1, 3),) * 5), 3), (("entry", 0, 1, ((1, 3), (2, 4))), 3), (("entry", 0, 1, ((1, 0),)), 3),
    (("entry", 0, 1, ((1, -3),)), 3), (("entry", 0, 1, ((0, 2),)), 3), (("entry", 0, 1, ((True, 3),)), 3),
    (("entry", 0, 1, ((1, True),)), 3), (("entry", 0, 1, ((10 ** 6 + 1, 1),)), 3),
    (("entry", 0, 1, ((-10 ** 6 - 1, 1),)), 3), (("entry", 0, 1, ((1, 10 ** 6 + 1),)), 3),
    (("entry", 0, 1, ((1, 3), (1, 3), (1, 3), None)), 3), (("entry", LAST - 1, 1, ((BIG, 1),)), 3),
)
# Items at the edges of what they may be.
EDGE_ITEMS = (
    ("entry", 0, 1, ((0, 1),)), ("entry", 0, LAST, THIRDS * 4), ("entry", LAST - 1, 1, ((-1, 2), (0, 1))),
    ("entry", 5, 1, ((10 ** 6, 1), (-10 ** 6, 1), (1, 10 ** 6), (-10 ** 6, 10 ** 6 - 1))),
    ("statement", 0, 1, 0), ("statement", 0, LAST, BIGGEST), ("statement", LAST - 1, 1, -BIGGEST),
    ("statement", LAST // 2, LAST // 2, -1),
)


def check_untouched(test, function, *args):
    """Calls the function and checks that it left its arguments as they were."""
    before = copy.deepcopy(args)
    result = function(*args)
    test.assertEqual(args, before)
    return result


def state(ledger):
    """All that can be seen of a ledger."""
    return repr((ledger.numbered(), ledger.entries(), ledger.statements(), list(ledger.walk()), ledger.next_number,
                 len(ledger), ledger))


def check_raises(test, kind, attributes, function, *args, **more):
    """Calls the function and checks its error: just this kind, with just these attributes."""
    before = repr((args, more))
    with test.assertRaises(kind) as caught:
        function(*args, **more)
    test.assertIs(type(caught.exception), kind)
    test.assertEqual(repr(vars(caught.exception)), repr(attributes))
    test.assertEqual(repr((args, more)), before)
