"""Goods: what is one, and the THINGS in it by their numbers."""

from madeofhere.errors import BadGood
from madeofhere.kinds import is_one_of, is_row_of, is_within

# Where the parts of a THING stand in it.
MAKING = 0
LAND = 1
LOW = 2
HIGH = 3
RULE = 4
PARTS = 5

MOST_PRICE = 1000000
MOST_SHARE = 100
MOST_PARTS = 4
MOST_THINGS = 10
MOST_STEPS = 4
MOST_MOVES = 3


def is_made(thing):
    """Whether it is a tuple that has "made" first, whatever else is wrong with it."""
    return isinstance(thing, tuple) and len(thing) > 0 and is_one_of(thing[MAKING], ("made",))


def is_rule(value):
    """Whether any value is a RULE."""
    if not is_row_of(value, 3):
        return False
    share, up, down = value
    return is_within(share, 0, MOST_SHARE) and is_one_of(up, ("whole", "own")) and is_one_of(down, ("own", "none"))


def parts_in(thing):
    """The PARTS of a THING; a raw one has none."""
    return thing[PARTS] if is_made(thing) else ()


def is_moving(thing):
    """Whether the price of a THING has more than one value."""
    return thing[LOW] < thing[HIGH]


def _has_form(thing):
    if is_made(thing):
        return len(thing) == 6
    return is_row_of(thing, 4) and is_one_of(thing[MAKING], ("raw",))


def _are_parts(value):
    return isinstance(value, tuple) and 1 <= len(value) <= MOST_PARTS


def _fault(thing):
    """The word for what is wrong with any value as a THING by itself, or None."""
    if not _has_form(thing):
        return "form"
    if not is_one_of(thing[LAND], ("here", "away")):
        return "land"
    if not is_within(thing[LOW], 0, MOST_PRICE):
        return "low"
    if not is_within(thing[HIGH], thing[LOW], MOST_PRICE):
        return "high"
    if is_made(thing) and not is_rule(thing[RULE]):
        return "rule"
    if is_made(thing) and not _are_parts(thing[PARTS]):
        return "parts"
    return None


def _are_many(found):
    """Whether there are too many THINGS, or too many of them are made."""
    return len(found) > MOST_THINGS or len([thing for thing in found if is_made(thing)]) > MOST_STEPS


def _things_in(thing):
    """The list of all THINGS in any value, in the order of their numbers, each right by itself."""
    found = []
    waiting = [thing]
    while waiting:
        first, *rest = waiting
        found.append(first)
        if _are_many(found):
            raise BadGood(len(found) - 1, "many")
        part = _fault(first)
        if part is not None:
            raise BadGood(len(found) - 1, part)
        waiting = [*parts_in(first), *rest]
    return found


def _fault_together(found):
    """The word for what is wrong with all THINGS of a value together, or None."""
    if not is_made(found[0]):
        return "raw"
    if len([thing for thing in found if is_moving(thing)]) > MOST_MOVES:
        return "moves"
    if max([thing[LOW] for thing in found]) == 0:
        return "nothing"
    return None


def things(good):
    """The tuple of all THINGS in a GOOD by their numbers."""
    found = _things_in(good)
    part = _fault_together(found)
    if part is not None:
        raise BadGood(0, part)
    return tuple(found)


def need_good(thing):
    """The very value, if it is a GOOD."""
    things(thing)
    return thing


def steps(good):
    """The ascending tuple of the numbers of the THINGS that are made."""
    return tuple([number for number, thing in enumerate(things(good)) if is_made(thing)])


def moves(good):
    """The ascending tuple of the numbers of the THINGS with a LOW less than their HIGH."""
    return tuple([number for number, thing in enumerate(things(good)) if is_moving(thing)])


def lows(good):
    """The PRICES that are all LOW."""
    return tuple([(thing[LOW], 1) for thing in things(good)])


def highs(good):
    """The PRICES that are all HIGH."""
    return tuple([(thing[HIGH], 1) for thing in things(good)])


def _how_many(thing):
    return 1 + sum([_how_many(part) for part in parts_in(thing)])


def part_numbers(found):
    """For each THING of those in a GOOD the tuple of the numbers of its own PARTS."""
    numbers = []
    for number, thing in enumerate(found):
        inside = []
        at = number + 1
        for part in parts_in(thing):
            inside.append(at)
            at = at + _how_many(part)
        numbers.append(tuple(inside))
    return tuple(numbers)
