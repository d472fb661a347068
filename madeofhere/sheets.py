"""The SHEETS of a GOOD by their corners.

A *corner* is a pair of a place, as in outlines.py, and of the bits of the FORMS that are 0 there. The corners of what a
FORM leaves of a SHEET come from those of the SHEET: some stay, and new ones stand where an edge is cut.
"""

from math import gcd, lcm

from madeofhere.building import put
from madeofhere.goods import HIGH, LOW
from madeofhere.outlines import (
    ZERO, added, all_forms, form_number, mixed, prices_at, told_here, with_word, worth,
)


class Sheet:
    """The SHEET of some WORDS told so far, those of the last STEPS, as if the STEPS ahead asked for nothing.

    owns are the OWNS of all THINGS by their numbers, with what COUNTS of the STEPS told; zeros are the bits of the
    FORMS of those with the word 0.
    """

    def __init__(self, told, owns, corners, zeros):
        self.told = told
        self.owns = owns
        self.corners = corners
        self.zeros = zeros


def outer_corners(outline):
    """The corners of all PRICES."""
    sides = [((0, 0),)] * 3
    for at, number in enumerate(outline.moving):
        thing = outline.found[number]
        sides[at] = ((thing[LOW], 1 << (2 * at)), (thing[HIGH], 1 << (2 * at + 1)))
    first, second, third = sides
    return [((x, y, z, 1), i | j | k) for x, i in first for y, j in second for z, k in third]


def _place_between(one, other, under, over):
    """The place between two ones where a form is 0 that is over 0 by so much at the one, under it at the other one."""
    x, y, z, of = mixed(one, under, other, over)
    shared = gcd(gcd(x, y), gcd(z, of))
    return x // shared, y // shared, z // shared, of // shared


def parted(corners, form, bit):
    """The lists of the corners where a form is above 0, of those of the cut where it is 0, of those where it is below.

    The bit is that of the form.
    """
    above = []
    within = []
    below = []
    for corner in corners:
        much = worth(form, corner[0])
        if much > 0:
            above.append((corner, much))
        elif much < 0:
            below.append((corner, -much))
        else:
            within.append((corner[0], corner[1] | bit))
    for (place, bits), over in above:
        for (other, more_bits), under in below:
            shared = bits & more_bits
            # Two corners are the ends of an edge just if no other one has all the bits that they share.
            if len([1 for _, some in corners if (some & shared) == shared]) == 2:
                within.append((_place_between(place, other, under, over), shared | bit))
    return [corner for corner, _ in above], within, [corner for corner, _ in below]


def cut(corners, form, bit):
    """The corners of what is left where a form is not below 0."""
    above, within, _ = parted(corners, form, bit)
    return above + within


def corners_of(outline, words):
    """The corners of the SHEET of WORDS."""
    corners = outer_corners(outline)
    rows = all_forms(outline, words)
    for number in range(form_number(outline, 0), len(rows)):
        corners = cut(corners, rows[number], 1 << number)
    return corners


def tied(corners, zeros):
    """Of these bits those of the forms that are 0 at all of the corners."""
    for _, bits in corners:
        zeros = zeros & bits
    return zeros


def has_inside(corners, zeros):
    """Whether the forms of these bits are above 0 at some PRICES between the corners: then they are in the middle."""
    return len(corners) > 0 and tied(corners, zeros) == 0


def _grown(outline, sheet):
    """The two sheets that come of a sheet when the word of the STEP ahead is told, 0 and 1."""
    step = len(outline.made) - len(sheet.told) - 1
    number = outline.made[step]
    bit = 1 << form_number(outline, step)
    above, within, below = parted(sheet.corners, told_here(outline, number, sheet.owns[number]), bit)
    return (
        Sheet((0, *sheet.told), with_word(outline, sheet.owns, number, 0), below + within, sheet.zeros | bit),
        Sheet((1, *sheet.told), with_word(outline, sheet.owns, number, 1), above + within, sheet.zeros),
    )


def sheets_between(outline, first, corners, zeros):
    """The list of the sheets of all WORDS of the STEPS from the first one on that come between these corners.

    The FORMS of the bits of zeros are above 0 where WORDS come, too.
    """
    sheets = [Sheet((), outline.own, corners, zeros)]
    for _ in range(len(outline.made) - first):
        fuller = [one for sheet in sheets for one in _grown(outline, sheet)]
        sheets = [sheet for sheet in fuller if has_inside(sheet.corners, sheet.zeros)]
    return sheets


def coming_sheets(outline, first):
    """The list of the sheets of all WORDS of the STEPS from the first one on that come."""
    return sheets_between(outline, first, outer_corners(outline), 0)


def line_corners(outline, place, at):
    """The corners of the LINE of a THING through a place: its two ends; at is where in the place its price stands."""
    thing = outline.found[outline.moving[at]]
    low = put(place, at, thing[LOW] * place[3])
    high = put(place, at, thing[HIGH] * place[3])
    return [(low, 1 << (2 * at)), (high, 1 << (2 * at + 1))]


def places_in_one_unit(corners):
    """The list of the places of corners, all written with the same OF."""
    unit = 1
    for place, _ in corners:
        unit = lcm(unit, place[3])
    rows = []
    for (x, y, z, of), _ in corners:
        times = unit // of
        rows.append((x * times, y * times, z * times, unit))
    return rows


def middle_place(corners):
    """The place in the middle of corners: the mean of them."""
    total = ZERO
    for place in places_in_one_unit(corners):
        total = added(total, place)
    return total


def middle_prices(outline, corners):
    """The PRICES in the middle of corners."""
    return prices_at(outline, middle_place(corners))
