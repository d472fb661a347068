"""Goods: what is one, and the THINGS in it by their numbers."""

from madeofhere.errors import BadGood, BadNumber
from madeofhere.kinds import is_within

# Where the parts of a THING stand in it.
MAKING = 0
LAND = 1
LOW = 2
HIGH = 3
RULE = 4
PARTS = 5

MOST_PRICE = 1000000
MOST_SHARE = 100
MOST_PARTS = 4
MOST_THINGS = 10
MOST_STEPS = 4
MOST_MOVES = 3


# Every call of this package looks over a whole GOOD. So, to be quick, the functions from here to look_over ask on the
# spot of what kind a value is; they ask it first, so that no value is asked whether it is equal.


def is_rule(value):
    """Whether any value is a RULE."""
    if not isinstance(value, tuple) or len(value) != 3:
        return False
    share, up, down = value
    if not isinstance(share, int) or isinstance(share, bool) or not 0 <= share <= MOST_SHARE:
        return False
    if not isinstance(up, str) or not isinstance(down, str):
        return False
    return (up == "whole" or up == "own") and (down == "own" or down == "none")


def _need_bounds(number, land, low, high):
    """Refuse any values that can not be the LAND, LOW and HIGH of the THING with this number."""
    if not isinstance(land, str) or (land != "here" and land != "away"):
        raise BadGood(number, "land")
    if not isinstance(low, int) or isinstance(low, bool) or not 0 <= low <= MOST_PRICE:
        raise BadGood(number, "low")
    if not isinstance(high, int) or isinstance(high, bool) or not low <= high <= MOST_PRICE:
        raise BadGood(number, "high")


def _need_making(number, rule, parts):
    """Refuse any values that can not be the RULE and PARTS of the THING with this number."""
    if not is_rule(rule):
        raise BadGood(number, "rule")
    if not isinstance(parts, tuple) or not 1 <= len(parts) <= MOST_PARTS:
        raise BadGood(number, "parts")


def _look_at(thing, whole, found, wholes, made, moving):
    """Put any value as the next THING into the lists that look_over tells, and behind it what is in it."""
    number = len(found)
    word = thing[MAKING] if isinstance(thing, tuple) and len(thing) > 0 else None
    is_step = isinstance(word, str) and word == "made"
    if is_step:
        made.append(number)
    if number == MOST_THINGS or len(made) > MOST_STEPS:
        raise BadGood(number, "many")
    parts = ()
    if is_step and len(thing) == 6:
        _, land, low, high, rule, parts = thing
        _need_bounds(number, land, low, high)
        _need_making(number, rule, parts)
    elif isinstance(word, str) and word == "raw" and len(thing) == 4:
        _, land, low, high = thing
        _need_bounds(number, land, low, high)
    else:
        raise BadGood(number, "form")
    found.append(thing)
    wholes.append(whole)
    if low < high:
        moving.append(number)
    for part in parts:
        _look_at(part, number, found, wholes, made, moving)


def look_over(good):
    """Of a GOOD the lists, by their numbers, of its THINGS and of the numbers of those that these are PARTS of.

    Behind these two the lists of the numbers of those that are made, and of those with a LOW less than their HIGH.
    """
    found, wholes, made, moving = [], [], [], []
    _look_at(good, None, found, wholes, made, moving)
    if len(made) == 0:
        raise BadGood(0, "raw")
    if len(moving) > MOST_MOVES:
        raise BadGood(0, "moves")
    for thing in found:
        if thing[LOW] > 0:
            return found, wholes, made, moving
    raise BadGood(0, "nothing")


def need_good(thing):
    """The very value, if it is a GOOD."""
    look_over(thing)
    return thing


def need_number(value, many):
    """The very value, if it is a number of one of so many THINGS, or STEPS."""
    if not is_within(value, 0, many - 1):
        raise BadNumber(value)
    return value


def things(good):
    """The tuple of all THINGS in a GOOD by their numbers."""
    found, _, _, _ = look_over(good)
    return tuple(found)


def steps(good):
    """The ascending tuple of the numbers of the THINGS that are made."""
    _, _, made, _ = look_over(good)
    return tuple(made)


def moves(good):
    """The ascending tuple of the numbers of the THINGS with a LOW less than their HIGH."""
    _, _, _, moving = look_over(good)
    return tuple(moving)


def lows(good):
    """The PRICES that are all LOW."""
    return tuple([(thing[LOW], 1) for thing in things(good)])


def highs(good):
    """The PRICES that are all HIGH."""
    return tuple([(thing[HIGH], 1) for thing in things(good)])
