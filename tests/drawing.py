"""Drawn GOODS and PRICES: always the same ones for the same seed."""

import random
from fractions import Fraction

from tests.samples import told

SHARES = (0, 100, 50, 40, 60, 33)


def tree(chance, steps, things):
    """The parts of each step: numbers of steps, and None for each raw thing; about so many things in all."""
    parts = {0: []}
    for step in range(1, steps):
        parts[chance.choice([at for at in parts if len(parts[at]) < 4])].append(step)
        parts[step] = []
    for inside in parts.values():
        if not inside:
            inside.append(None)
    while len(parts) + sum(inside.count(None) for inside in parts.values()) < things:
        free = [at for at in parts if len(parts[at]) < 4]
        if not free:
            break
        parts[chance.choice(free)].append(None)
    for inside in parts.values():
        chance.shuffle(inside)
    return parts


def drawn_good(chance, steps, moving, things=6, most=6, shares=SHARES):
    """A GOOD with so many steps and things that move, about so many things in all, and prices up to the most."""
    parts = tree(chance, steps, things)
    many = len(parts) + sum(inside.count(None) for inside in parts.values())
    moved = chance.sample(range(many), min(moving, many))
    # One of those that do not move, or else the first one, costs something whatever is drawn for it.
    rich = min([at for at in range(many) if at not in moved], default=0)
    bounds = []
    for at in range(many):
        low = chance.choice((0, chance.randint(0, most - 1))) if at != rich else chance.randint(1, most - 1)
        bounds.append((low, chance.randint(low + 1, most) if at in moved else low))
    return good_of(chance, parts, bounds, shares)


def good_of(chance, parts, bounds, shares=SHARES):
    """A GOOD with these parts of its steps and these bounds of its THINGS, with drawn LANDS and RULES."""
    left = iter(bounds)

    def build(step):
        low, high = next(left)
        land = chance.choice(("here", "away"))
        if step is None:
            return ("raw", land, low, high)
        share = chance.choice((*shares, chance.randint(0, 100)))
        rule = (share, chance.choice(("whole", "own")), chance.choice(("own", "none")))
        return ("made", land, low, high, rule, tuple([build(inside) for inside in parts[step]]))

    return build(0)


def drawn_goods(seed, rounds, most=6, things=6):
    """GOODS of one to four steps of which none to three move, so many of each kind."""
    chance = random.Random(seed)
    kinds = [(steps, moving) for steps in (1, 2, 3, 4) for moving in (0, 1, 2, 3)]
    return [drawn_good(chance, *kind, chance.randint(2, things), most) for _ in range(rounds) for kind in kinds]


def lively(chance, good):
    """The good with other SHARES: those that its steps have at drawn prices, or one more, so that words turn there."""

    def build(thing):
        price = chance.randint(thing[2], thing[3])
        own = price if thing[1] == "here" else 0
        if thing[0] == "raw":
            return thing, price, own
        rows = [build(part) for part in thing[5]]
        cost = price + sum(row[1] for row in rows)
        own += sum(row[2] for row in rows)
        share = min(100, (100 * own // cost if cost else 50) + chance.choice((0, 0, 1)))
        rule = (share, *thing[4][1:])
        here = 100 * own >= share * cost
        counts = (cost if rule[1] == "whole" else own) if here else (own if rule[2] == "own" else 0)
        return (*thing[:4], rule, tuple(row[0] for row in rows)), cost, counts

    return build(good)[0]


def lively_goods(seed, rounds, most=6, things=6, kinds=None):
    """GOODS of one to four steps of which none to three move, or of other such kinds, that turn within their bounds."""
    chance = random.Random(seed)
    kinds = kinds or [(steps, moving) for steps in (1, 2, 3, 4) for moving in (0, 1, 2, 3)]
    return [lively(chance, drawn_good(chance, *kind, chance.randint(2, things), most))
            for _ in range(rounds) for kind in kinds]


def drawn_twin(chance, good, often=0.5):
    """A TWIN with some other LANDS and RULES."""

    def build(thing):
        land = chance.choice(("here", "away")) if chance.random() < often else thing[1]
        if thing[0] == "raw":
            return ("raw", land, *thing[2:])
        rule = thing[4]
        if chance.random() < often:
            share = min(100, max(0, rule[0] + chance.choice((-1, 1, 5, -7))))
            rule = (share, chance.choice(("whole", "own")), chance.choice(("own", "none")))
        return ("made", land, *thing[2:4], rule, tuple(build(part) for part in thing[5]))

    return build(good)


def rebuilt_twin(chance, good):
    """A TWIN in which other THINGS are made of others."""
    bounds = []

    def look(thing):
        bounds.append(thing[2:4])
        for part in thing[5] if thing[0] == "made" else ():
            look(part)

    look(good)
    while True:
        parts = tree(chance, chance.randint(1, min(4, len(bounds) - 1)), len(bounds))
        if len(parts) + sum(inside.count(None) for inside in parts.values()) == len(bounds):
            return lively(chance, good_of(chance, parts, bounds))


def drawn_pairs(seed, rounds, most=6, things=6, kinds=None):
    """Lively GOODS, each with a TWIN: with few other words in it, with many, or of which other THINGS are made."""
    chance = random.Random(seed)
    rows = []
    for good in lively_goods(seed, rounds, most, things, kinds):
        other = chance.choice((0.1, 0.3, 0.6, None))
        rows.append((good, rebuilt_twin(chance, good) if other is None else drawn_twin(chance, good, other)))
    return rows


def goods_at_the_bounds(seed, rounds):
    """GOODS of ten things with the greatest prices, and such with SHARES of 0 and 100 alone."""
    chance = random.Random(seed)
    goods = []
    for _ in range(rounds):
        goods.append(drawn_good(chance, 4, 3, 10, 10 ** 6))
        goods.append(drawn_good(chance, 3, 3, 10, 10 ** 6, (0, 100)))
        goods.append(drawn_good(chance, 4, 3, 10, 2, (0, 100)))
        goods.append(drawn_good(chance, 4, 2, 10, 5))
    return goods


def lonely_goods():
    """GOODS of which all LOWS are 0 but one."""
    goods = []
    for at in range(4):
        low = [int(at == k) for k in range(4)]
        for share in (0, 1, 50, 100):
            inner = ("made", "away", low[1], low[1], (share, "whole", "none"), (("raw", "here", low[2], 2),))
            goods.append(("made", "here", low[0], 3, (share, "own", "own"), (inner, ("raw", "away", low[3], low[3]))))
    return goods


def drawn_price(chance, low, high):
    """A FRACTION from LOW to HIGH."""
    of = chance.choice((1, 2, 3, 12, 10 ** 9 + 7))
    return told(Fraction(chance.choice((low * of, high * of, chance.randint(low * of, high * of))), of))


def drawn_prices(chance, bounds):
    return tuple([drawn_price(chance, low, high) for low, high in bounds])
