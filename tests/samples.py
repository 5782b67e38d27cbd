"""Values that several test files use."""

import copy

# 99 and 100 digits.
BIG = 10 ** 98 + 7
BIGGEST = 10 ** 100 - 1

# Things of every kind that is neither a ratio nor a set of cuts.
ODD_THINGS = (
    None, True, False, 0, 1, -1, BIGGEST, "", "(0, 1)", "1/3", "ab", [0, 1], [[0, 1]], (), (1,), (1, 2, 3),
    (None, None), ("1", "3"), ("1", 3), (1, "3"), ((1, 3), 1), (1, (3,)), ([1], 3), ((0, 1), (1, 1)),
)


def nested(depth, one):
    """A list nested in itself that many times, around one."""
    for _ in range(depth):
        one = [one]
    return one


def check_untouched(test, function, *args):
    """Calls the function and checks that it left its arguments as they were."""
    before = copy.deepcopy(args)
    result = function(*args)
    test.assertEqual(args, before)
    return result
