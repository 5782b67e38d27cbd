"""Whether any thing is a correct paper, whoever wrote it."""

from onecut.arcs import gaps
from onecut.cells import cells, fewest_asks, is_last, points_up_to
from onecut.kinds import is_cut, is_stretch, wrong_part
from onecut.ledger import Ledger
from onecut.left import telling_all
from onecut.ratios import is_int
from onecut.spans import arc, has
from onecut.statements import most_told


def _are_items(thing, kind, most):
    """Whether any thing is a list of at most so many items of the kind."""
    if not (isinstance(thing, list) and len(thing) <= most):
        return False
    return all([wrong_part(part) is None and part[0] == kind for part in thing])


def _are_statements(thing):
    return _are_items(thing, "statement", Ledger.MOST_STATEMENTS)


def _are_indexes(thing, many):
    """Whether any thing is an ascending list of indexes below many, without duplicates."""
    if not (isinstance(thing, list) and all([is_int(at) and 0 <= at < many for at in thing])):
        return False
    return all([at < after for at, after in zip(thing, thing[1:])])


def _fits(thing):
    """Whether the cut tells all statements as stated."""
    _, entries, statements, cut = thing
    return is_cut(cut) and has(telling_all(entries, statements), cut)


def _clashes(thing):
    """Whether no cut tells all statements as stated, but some cut does so if any one of them is left out."""
    _, entries, statements = thing
    lots = [statements[:at] + statements[at + 1:] for at in range(len(statements))]
    return telling_all(entries, statements) == [] and all([telling_all(entries, lot) != [] for lot in lots])


def _drops(thing):
    """Whether the cut tells all statements but the dropped ones as stated, and no cut tells more of them."""
    _, entries, statements, dropped, cut = thing
    if not (_are_indexes(dropped, len(statements)) and is_cut(cut)):
        return False
    others = [statement for at, statement in enumerate(statements) if at not in dropped]
    return has(telling_all(entries, others), cut) and most_told(entries, statements)[0] == len(others)


def _says_the_same(thing):
    """Whether the record leaves the same cuts as the statements, which are some, and no shorter list does."""
    _, entries, statements, shortest = thing
    if not _are_statements(shortest):
        return False
    cuts = telling_all(entries, statements)
    # What one statement rules out lies side by side, so each gap takes a statement of its own.
    return cuts != [] and telling_all(entries, shortest) == cuts and len(shortest) == len(gaps(cuts))


def _settles(tree, points, lows, most):
    """Whether any thing is a question tree that tells cells apart with at most so many asks in the worst case.

    lows are the least cuts of the cells, and points those of the days from 0 to the last one.
    """
    if tree == ("sure",):
        return len(lows) == 1
    if not (most > 0 and isinstance(tree, tuple) and len(tree) == 5 and tree[0] == "ask"):
        return False
    _, first, many, lesser, greater = tree
    if not is_stretch((first, many)) or first + many >= len(points):
        return False
    telling = arc(points[first], points[first + many])
    below = [low for low in lows if has(telling, low)]
    above = [low for low in lows if not has(telling, low)]
    # For an answer that is not possible there are no cells, and no tree tells none apart.
    return _settles(lesser, points, below, most - 1) and _settles(greater, points, above, most - 1)


def _plans(thing):
    """Whether the tree settles the days up to the last one, with as few asks as possible in the worst case."""
    _, entries, statements, last, tree = thing
    if not is_last(last):
        return False
    points = points_up_to(entries, last)
    lows = cells(points, telling_all(entries, statements))
    return lows != [] and _settles(tree, points, lows, fewest_asks(len(lows)))


def _sets_apart(thing):
    """Whether some cut tells the statement and all of one as stated, and none the statement and all of other."""
    _, entries, one, other, statement = thing
    if not (_are_statements(other) and _are_statements([statement])):
        return False
    return telling_all(entries, one + [statement]) != [] and telling_all(entries, other + [statement]) == []


# The number of parts is checked ahead, so that each check can take its paper apart.
PARTS = {"fits": 4, "clash": 3, "drop": 5, "record": 4, "plan": 5, "apart": 5}
CHECKS = {
    "fits": _fits,
    "clash": _clashes,
    "drop": _drops,
    "record": _says_the_same,
    "plan": _plans,
    "apart": _sets_apart,
}


def holds(thing):
    """Whether any thing is a correct paper."""
    if not (isinstance(thing, tuple) and len(thing) > 0 and isinstance(thing[0], str)):
        return False
    name = thing[0]
    if name not in PARTS or len(thing) != PARTS[name]:
        return False
    if not (_are_items(thing[1], "entry", Ledger.MOST_ENTRIES) and _are_statements(thing[2])):
        return False
    check = CHECKS[name]
    return check(thing)
