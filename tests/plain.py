"""A plain reckoning: day by day, and cut by cut."""

from fractions import Fraction
from math import floor, lcm


def ratio(fraction):
    """The tuple of a fraction or an integer."""
    fraction = Fraction(fraction)
    return (fraction.numerator, fraction.denominator)


def fraction(pair):
    return Fraction(*pair)


def day_amount(entries, day):
    """The amount of a day, a fraction."""
    total = Fraction(0)
    for _, first, many, amounts in entries:
        if first <= day < first + many:
            total += Fraction(*amounts[(day - first) % len(amounts)])
    return total


def day_sums(entries, last):
    """The sums before all days up to the last one."""
    sums = [Fraction(0)]
    for day in range(last):
        sums.append(sums[-1] + day_amount(entries, day))
    return sums


class Plain:
    """The sums before all days up to a last one, and all cuts that can tell differently."""

    def __init__(self, items, last):
        self.statements = [item for item in items if item[0] == "statement"]
        self.sums = day_sums([item for item in items if item[0] == "entry"], last)
        self.steps = lcm(*[one.denominator for one in self.sums])
        # All sums are multiples of 1 / steps, so a cut tells what the next such multiple below it tells.
        self.cuts = [Fraction(k, self.steps) for k in range(self.steps)]
        self.left = [cut for cut in self.cuts if self.tells(cut, self.statements)]

    def exact(self, stretch):
        return self.sums[stretch[0] + stretch[1]] - self.sums[stretch[0]]

    def told(self, cut, stretch):
        first, many = stretch
        return floor(self.sums[first + many] + cut) - floor(self.sums[first] + cut)

    def tells(self, cut, statements):
        return all(self.told(cut, (first, many)) == number for _, first, many, number in statements)

    def spans(self, cuts):
        """The set of cuts, as tuples, of these cuts with all that follow below the next one."""
        found = []
        for cut in cuts:
            if found and found[-1][1] == cut:
                found[-1][1] = cut + Fraction(1, self.steps)
            else:
                found.append([cut, cut + Fraction(1, self.steps)])
        return [(ratio(low), ratio(high)) for low, high in found]

    def numbers(self, stretch):
        return sorted({self.told(cut, stretch) for cut in self.left})

    def cut_for(self, stretch, number):
        telling = [cut for cut in self.left if self.told(cut, stretch) == number]
        return ratio(telling[0]) if telling else None

    def average(self, stretch):
        if not self.left:
            return None
        return Fraction(sum(self.told(cut, stretch) for cut in self.left), len(self.left))

    def together(self, stretches):
        return sorted({tuple(self.told(cut, stretch) for stretch in stretches) for cut in self.left})

    def best(self, wishes):
        found = None
        for cut in self.left:
            weight = sum(weight for stretch, number, weight in wishes if self.told(cut, stretch) == number)
            if found is None or weight > found[0]:
                found = (weight, ratio(cut))
        return found


def draw_stretch(random, last):
    first = random.randrange(last)
    return (first, random.randint(1, last - first))


def draw_ratio(random, under, top=9):
    return ratio(Fraction(random.randint(-top, top), random.randint(1, under)))


def draw_entry(random, last, under=6):
    amounts = tuple(draw_ratio(random, under) for _ in range(random.randint(1, 4)))
    return ("entry", *draw_stretch(random, last), amounts)


def draw_entries(random, last, under=6, most=4):
    return [draw_entry(random, last, under) for _ in range(random.randint(0, most))]


def draw_items(random, last):
    """Entries and statements: often possible ones, and sometimes one that no cut tells."""
    items = draw_entries(random, last)
    plain = Plain(items, last)
    cut = random.choice(plain.cuts)
    for _ in range(random.randint(0, 6)):
        stretch = draw_stretch(random, last)
        number = plain.told(cut if random.random() < 0.8 else random.choice(plain.cuts), stretch)
        items.append(("statement", *stretch, number + (random.random() < 0.03)))
    random.shuffle(items)
    return items
