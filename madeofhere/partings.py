"""STEPS parted and joined: which CHANGES of a GOOD can be, and what they do."""

from itertools import combinations

from madeofhere.building import with_thing
from madeofhere.errors import BadChange
from madeofhere.goods import LAND, MAKING, MOST_PARTS, MOST_STEPS, MOST_THINGS, PARTS, RULE, look_over
from madeofhere.kinds import is_one_of, is_row_of, is_within
from madeofhere.money import need_prices
from madeofhere.outlines import Outline
from madeofhere.portions import least_portion
from madeofhere.sheets import middle_prices
from madeofhere.sures import is_sure
from madeofhere.twins import corners_apart


# What comes of a CHANGE has the same THINGS but for a new one without a price, or one that is raw now. So it can only
# fail to be a GOOD by too many THINGS, STEPS or PARTS.


def _has_room(found, made):
    """Whether there can be another THING that is made."""
    return len(found) < MOST_THINGS and len(made) < MOST_STEPS


def _can_go(parts, at):
    """Whether a PART is made, and its own PARTS can stand among these, behind what was the work."""
    return parts[at][MAKING] == "made" and len(parts) + len(parts[at][PARTS]) <= MOST_PARTS


def _is_lot(value, many):
    """Whether any value is a LOT of so many PARTS."""
    if not isinstance(value, tuple) or not 1 <= len(value) <= many:
        return False
    ahead = -1
    for at in value:
        if not is_within(at, ahead + 1, many - 1):
            return False
        ahead = at
    return True


def _need_change(found, made, change):
    """Refuse any value that is no CHANGE that can be of the GOOD with these THINGS and STEPS."""
    if not is_row_of(change, 3) or not is_one_of(change[0], ("join", "part")):
        raise BadChange(change)
    word, step, told = change
    if not is_within(step, 0, len(made) - 1):
        raise BadChange(change)
    parts = found[made[step]][PARTS]
    if word == "part":
        can_be = _is_lot(told, len(parts)) and _has_room(found, made)
    else:
        can_be = is_within(told, 0, len(parts) - 1) and _can_go(parts, told)
    if not can_be:
        raise BadChange(change)


def _lots(many):
    """The list of all LOTS of so many PARTS."""
    return [lot for size in range(1, many + 1) for lot in combinations(range(many), size)]


def _changes_of(found, made):
    """The ascending list of all CHANGES that can be."""
    rows = []
    room = _has_room(found, made)
    for step, number in enumerate(made):
        parts = found[number][PARTS]
        rows += [("join", step, at) for at in range(len(parts)) if _can_go(parts, at)]
        if room:
            rows += [("part", step, lot) for lot in _lots(len(parts))]
    return sorted(rows)


def _parted(thing, lot):
    """A THING with the PARTS of a LOT in a new one."""
    _, land, _, _, rule, parts = thing
    fresh = ("made", land, 0, 0, rule, tuple([parts[at] for at in lot]))
    behind = [parts[at] for at in range(lot[0], len(parts)) if at not in lot]
    return ("made", *thing[LAND:PARTS], (*parts[:lot[0]], fresh, *behind))


def _joined(thing, at):
    """A THING with what its PART that goes is made of."""
    parts = thing[PARTS]
    part = parts[at]
    return ("made", *thing[LAND:PARTS], (*parts[:at], ("raw", *part[LAND:RULE]), *part[PARTS], *parts[at + 1:]))


def _good_by(found, wholes, made, change):
    """The GOOD that comes of a CHANGE that can be."""
    word, step, told = change
    number = made[step]
    thing = found[number]
    return with_thing(found, wholes, number, _parted(thing, told) if word == "part" else _joined(thing, told))


def _end_of(wholes, number):
    """The number behind those of a THING and of all THINGS in it."""
    end = number + 1
    while end < len(wholes) and wholes[end] >= number:
        end += 1
    return end


def _numbers_by(wholes, made, change):
    """The list of the numbers that the THINGS had before a CHANGE, in their turn behind it; None for a new one."""
    word, step, told = change
    many = len(wholes)
    if word == "join":
        return list(range(many))
    inside = [number for number in range(many) if wholes[number] == made[step]]
    picked = [number for at in told for number in range(inside[at], _end_of(wholes, inside[at]))]
    first = picked[0]
    behind = [number for number in range(first, many) if number not in picked]
    return [*list(range(first)), None, *picked, *behind]


def changes(good):
    """The ascending tuple of all CHANGES that can be."""
    found, _, made, _ = look_over(good)
    return tuple(_changes_of(found, made))


def changed(good, change):
    """The GOOD that comes of a CHANGE."""
    found, wholes, made, _ = look_over(good)
    _need_change(found, made, change)
    return _good_by(found, wholes, made, change)


def changed_prices(good, change, prices):
    """The PRICES of the GOOD that comes of a CHANGE."""
    found, wholes, made, _ = look_over(good)
    _need_change(found, made, change)
    need_prices(found, prices)
    return tuple([(0, 1) if number is None else prices[number] for number in _numbers_by(wholes, made, change)])


def _corners_apart(outline, change, words):
    """Corners of PRICES of a GOOD at which it has one of these words, and by a CHANGE has not, or None."""
    numbers = _numbers_by(outline.wholes, outline.made, change)
    order = [numbers.index(number) for number in outline.moving]
    good = _good_by(outline.found, outline.wholes, outline.made, change)
    return corners_apart(outline, Outline(good, len(outline.made), order), words)


def _turning(good, word):
    """The tuple of the CHANGES by which STEP 0, at some PRICES, has not this word any more."""
    outline = Outline(good)
    rows = _changes_of(outline.found, outline.made)
    return tuple([change for change in rows if _corners_apart(outline, change, (word,)) is not None])


def helping(good):
    """The ascending tuple of the CHANGES by which the GOOD is of here at some PRICES, and is not without them."""
    return _turning(good, 0)


def harming(good):
    """The ascending tuple of the CHANGES without which the GOOD is of here at some PRICES, and is not by them."""
    return _turning(good, 1)


def helping_prices(good, change):
    """PRICES of the GOOD at which it is of here by a CHANGE, and not without it, or None."""
    outline = Outline(good)
    _need_change(outline.found, outline.made, change)
    corners = _corners_apart(outline, change, (0,))
    return None if corners is None else middle_prices(outline, corners)


def making_sure(good):
    """The ascending tuple of the CHANGES by which the GOOD is surely of here."""
    found, wholes, made, _ = look_over(good)
    return tuple([change for change in _changes_of(found, made) if is_sure(_good_by(found, wholes, made, change))])


def best_change(good):
    """The CHANGE by which the LEAST PORTION is greatest, and this FRACTION; None if it is as great without any."""
    found, wholes, made, _ = look_over(good)
    best = None
    part, of = least_portion(good)[0]
    for change in _changes_of(found, made):
        more, out_of = least_portion(_good_by(found, wholes, made, change))[0]
        if more * of > part * out_of:
            best = change
            part = more
            of = out_of
    return best, (part, of)
