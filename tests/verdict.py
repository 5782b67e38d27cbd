"""A plain verdict on papers about early days, over all cells of the ring, and ways to bend papers."""

from fractions import Fraction

from plain import ratio
from ring import Ring

# The verdict visits all days, so bent papers about later days are not judged.
LAST_VISITED = 200


def is_int(thing):
    return type(thing) is int


def is_ratio(thing):
    if type(thing) is not tuple or len(thing) != 2 or not all(map(is_int, thing)):
        return False
    return thing[1] > 0 and ratio(Fraction(*thing)) == thing


def is_cut(thing):
    return is_ratio(thing) and 0 <= Fraction(*thing) < 1


def is_item(thing, kind):
    if type(thing) is not tuple or len(thing) != 4 or type(thing[0]) is not str or thing[0] != kind:
        return False
    _, first, many, last = thing
    if not (is_int(first) and is_int(many) and first >= 0 and many >= 1 and first + many <= 10 ** 30):
        return False
    if kind == "statement":
        return is_int(last)
    return type(last) is tuple and 1 <= len(last) <= 4 and all(
        is_ratio(one) and abs(one[0]) <= 10 ** 6 and one[1] <= 10 ** 6 for one in last)


def are_items(thing, kind):
    most = 6 if kind == "entry" else 24
    return type(thing) is list and len(thing) <= most and all(is_item(part, kind) for part in thing)


def gap_count(ring, cells):
    """How many gaps there are between cells, some or all, round the ring."""
    many = len(ring.cells)
    return len([cell for cell in cells if (cell + 1) % many not in cells])


def classes(ring, cells, last):
    """How many ways there are among the cells to tell the days up to last."""
    return len({tuple(ring.told(ring.lows[cell], (0, day)) for day in range(1, last + 1)) for cell in cells})


def settles(tree, ring, cells, last, most):
    if type(tree) is tuple and len(tree) == 1 and type(tree[0]) is str and tree[0] == "sure":
        return classes(ring, cells, last) == 1
    if type(tree) is not tuple or len(tree) != 5 or type(tree[0]) is not str or tree[0] != "ask" or most == 0:
        return False
    _, first, many, lesser, greater = tree
    if not (is_int(first) and is_int(many) and first >= 0 and many >= 1 and first + many <= last):
        return False
    numbers = ring.numbers((first, many), cells)
    if len(numbers) != 2:
        return False
    parts = [frozenset(cell for cell in cells if ring.told(ring.lows[cell], (first, many)) == number)
             for number in numbers]
    return all(settles(after, ring, part, last, most - 1) for part, after in zip(parts, (lesser, greater)))


def verdict(thing):
    """Whether any thing is a correct paper; None if it is about days that are too late to be visited."""
    sizes = {"fits": 4, "clash": 3, "drop": 5, "record": 4, "plan": 5, "apart": 5}
    if type(thing) is not tuple or not thing or type(thing[0]) is not str or sizes.get(thing[0]) != len(thing):
        return False
    name, entries, statements, *rest = thing
    if not are_items(entries, "entry") or not are_items(statements, "statement"):
        return False
    listed = {"record": rest[:1], "apart": [rest[0], rest[-1:]]}.get(name, []) if rest else []
    if not all(are_items(part, "statement") for part in listed):
        return False
    told = statements + [statement for part in listed for statement in part]
    last = max([first + many for _, first, many, _ in told], default=0)
    if name == "plan":
        if not (is_int(rest[0]) and 0 <= rest[0] <= 200):
            return False
        last = max(last, rest[0])
    if last > LAST_VISITED:
        return None
    ring = Ring(entries, last)
    return {"fits": fits, "clash": clashes, "drop": drops, "record": records, "plan": plans, "apart": parts}[name](
        ring, statements, *rest)


def tells(ring, cut, statement):
    _, first, many, number = statement
    return ring.told(Fraction(*cut), (first, many)) == number


def fits(ring, statements, cut):
    return is_cut(cut) and all(tells(ring, cut, statement) for statement in statements)


def clashes(ring, statements):
    rest = [ring.telling_all(statements[:at] + statements[at + 1:]) for at in range(len(statements))]
    return not ring.telling_all(statements) and all(rest)


def drops(ring, statements, dropped, cut):
    if type(dropped) is not list or not all(is_int(at) and 0 <= at < len(statements) for at in dropped):
        return False
    if dropped != sorted(set(dropped)) or not is_cut(cut):
        return False
    others = [statement for at, statement in enumerate(statements) if at not in dropped]
    most = max(sum(cell in ring.telling(statement) for statement in statements) for cell in ring.cells)
    return all(tells(ring, cut, statement) for statement in others) and most <= len(others)


def records(ring, statements, shorter):
    cells = ring.telling_all(statements)
    return bool(cells) and ring.telling_all(shorter) == cells and len(shorter) == gap_count(ring, cells)


def plans(ring, statements, last, tree):
    cells = ring.telling_all(statements)
    if not cells:
        return False
    most = 0
    while 2 ** most < classes(ring, cells, last):
        most += 1
    return settles(tree, ring, cells, last, most)


def parts(ring, one, other, statement):
    return bool(ring.telling_all(one + [statement])) and not ring.telling_all(other + [statement])


def bends_of_value(thing):
    """Other values in the place of one that is no list and no tuple."""
    if isinstance(thing, str):
        return ["", "x", thing + " ", thing.upper(), "entry", "statement", "sure", "ask", "fits", "clash", None, 0]
    if thing is None:
        return [0, 1, "", (), [], False]
    others = [thing + 1, thing - 1, -thing, thing + 2, None, str(thing), (thing,), [thing], 10 ** 30 + 1, -10 ** 100]
    if thing in (0, 1):
        others += [bool(thing), not thing]
    return others


def bends_of_parts(parts):
    """The list of parts with a part less, a part twice, two parts exchanged, or a part more."""
    for at in range(len(parts)):
        yield parts[:at] + parts[at + 1:]
        yield parts[:at] + [parts[at]] + parts[at:]
        if at:
            yield parts[:at - 1] + [parts[at], parts[at - 1]] + parts[at + 1:]
    for more in (None, 0, (), [], ("sure",), ("statement", 0, 1, 0), ("entry", 0, 1, ((1, 2),))):
        yield parts + [more]
    yield parts[::-1]
    yield []


def bends(thing):
    """The thing with any one of its parts, or itself, bent in any one way."""
    if not isinstance(thing, (list, tuple)):
        yield from bends_of_value(thing)
        return
    same, other = (tuple, list) if isinstance(thing, tuple) else (list, tuple)
    parts = list(thing)
    yield other(parts)
    for bent in bends_of_parts(parts):
        yield same(bent)
    for value in (None, True, False, 0, "", (), [], ("sure",), (0, 1)):
        yield value
    for at, part in enumerate(parts):
        for bent in bends(part):
            yield same(parts[:at] + [bent] + parts[at + 1:])
