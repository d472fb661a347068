"""Goods and odd values that several tests use."""

import itertools
from fractions import Fraction


class Raising:
    """A value that answers no question: whatever is asked of it raises an error."""

    def _refuse(self, *told):
        raise RuntimeError("asked")

    __eq__ = __ne__ = __lt__ = __le__ = __gt__ = __ge__ = _refuse
    __hash__ = __len__ = __iter__ = __bool__ = __getitem__ = __contains__ = _refuse
    __int__ = __index__ = __str__ = __repr__ = __add__ = __radd__ = _refuse


class Agreeing:
    """A value that says that it is equal to any other one."""

    def __eq__(self, other):
        return True

    def __hash__(self):
        return hash("here")


ODD = (
    None, True, False, 0, -1, 10 ** 60, -10 ** 60, "", "here", "raw", "made", "own", "5", b"raw", b"", (), (1,),
    ("raw",), ("made",), [], ["raw", "here", 1, 2], {}, {"raw": 1}, set(), frozenset([1]), range(4), object(),
    Raising(), Agreeing(), int, len, lambda: 0, ValueError("x"), (None,) * 4, (Agreeing(),) * 6, (Raising(),) * 4,
)


def raw(low, high, land="here"):
    return ("raw", land, low, high)


def made(parts, low=0, high=0, land="here", rule=(50, "whole", "none")):
    return ("made", land, low, high, rule, tuple(parts))


# One step, the price of the work and of the second part moving: 1/3 of it is of here at all LOW, 2/3 at all HIGH.
LAMP = made([raw(20, 20, "away"), raw(0, 10)], 10, 30)

# Two steps: the LAMP, and what it is built into abroad.
TRUCK = made([LAMP, raw(30, 30, "away")], 5, 5, "away", (60, "own", "own"))

# Steps beside and within one another: the THINGS 0, 1, 3 and 6 are made.
CART = made(
    [
        made([raw(1, 1)], 2, 2, "here", (100, "whole", "own")),
        made([raw(3, 5, "away"), raw(4, 4), made([raw(6, 6, "away")], 0, 7, "here", (0, "own", "none"))], 8, 8, "away"),
        raw(0, 9, "here"),
    ],
    11, 11, "here", (40, "own", "own"),
)

# What costs nothing within it is of here, though all of it is asked for.
GIFT = made([made([raw(0, 0, "away")], 0, 0, "away", (100, "whole", "none")), raw(1, 1, "away")], 0, 3)


def chain(many, last):
    """So many things made of one another, and the last one within them."""
    thing = last
    for _ in range(many):
        thing = made([thing])
    return thing


def wide(many, of=raw(1, 1)):
    """A good with so many things in all, up to 16, two or four of them made."""
    if many <= 5:
        return made([of] * (many - 1))
    inside = []
    left = many - 4
    while left > 0:
        inside.append(min(left, 4))
        left -= 4
    return made([made([of] * some) for some in inside] + [of] * (3 - len(inside)))


def ratio(fraction):
    return Fraction(fraction[0], fraction[1])


def told(number):
    """A Fraction of Python's as a FRACTION of the document's."""
    return (number.numerator, number.denominator)


def slow_tally(thing, prices, rows, words):
    """The sums of a thing and all in it by the very words of the document, put into rows and words in turn."""
    at = len(rows)
    word_at = len(words)
    rows.append(None)
    price = prices[at]
    own = price if thing[1] == "here" else Fraction(0)
    if thing[0] == "raw":
        rows[at] = (price, own, own)
        return rows[at]
    words.append(None)
    inside = [slow_tally(part, prices, rows, words) for part in thing[5]]
    cost = price + sum(row[0] for row in inside)
    own += sum(row[2] for row in inside)
    share, up, down = thing[4]
    words[word_at] = int(100 * own >= share * cost)
    if words[word_at]:
        counts = {"whole": cost, "own": own}[up]
    else:
        counts = {"own": own, "none": Fraction(0)}[down]
    rows[at] = (cost, own, counts)
    return rows[at]


def slow_sums(good, prices):
    """COSTS, OWNS, what COUNTS, and WORDS."""
    rows = []
    words = []
    slow_tally(good, [ratio(price) for price in prices], rows, words)
    return tuple(tuple(told(row[k]) for row in rows) for k in range(3)) + (tuple(words),)


def price_grid(bounds):
    """PRICES at the bounds of all things, in the middle of them and at a third."""
    rows = []
    for low, high in bounds:
        at = {Fraction(low), Fraction(high), Fraction(low + high, 2), Fraction(2 * low + high, 3)}
        rows.append([told(number) for number in sorted(at)])
    return list(itertools.product(*rows))
