"""Prices that rise: at which PRICES a dearer THING alone drops a GOOD, or lifts it."""

from madeofhere.goods import need_number
from madeofhere.outlines import Outline, bound_forms, mixed, prices_at, step_forms
from madeofhere.sheets import coming_sheets, cut, has_inside, line_corners, middle_place, middle_prices, sheets_between


def forms_behind(outline, sheet, at):
    """Forms that tell behind what PRICES of a sheet the price at this place can rise to, within all PRICES.

    They are pairs of a form that is not below 0 there, and of 1 if it is above 0, otherwise 0. What lies behind begins
    above all prices from which on the sheet lies; and these are not beyond those up to which it lies.
    """
    rows = [(row, 1 - word) for row, word in zip(step_forms(outline, sheet.told), sheet.told)]
    rows.append((bound_forms(outline)[2 * at], 0))
    starts = [(form, above) for form, above in rows if form[at] > 0]
    ends = [(form, above) for form, above in rows if form[at] < 0]
    told = [(form, above) for form, above in rows if form[at] == 0]
    told += [(form, 1) for form, _ in starts]
    for form, above in starts:
        for other, other_above in ends:
            told.append((mixed(form, -other[at], other, form[at]), above | other_above))
    return told


def _corners_behind(outline, sheet, forms):
    """The corners of what of a sheet such forms tell, or none if there are no such PRICES."""
    corners = sheet.corners
    zeros = sheet.zeros
    bit = 1 << (2 * len(outline.moving) + len(outline.made))
    for form, above in forms:
        corners = cut(corners, form, bit)
        if above == 1:
            zeros = zeros | bit
        bit = bit << 1
    return corners if has_inside(corners, zeros) else []


def _rise(outline, sheets, at, word):
    """A pair of the WORDS and of the place to which the price at this place can rise from PRICES with these WORDS.

    STEP 0 has this word ahead of it, and the other one behind it; None if there are no such PRICES.
    """
    for sheet in sheets:
        if sheet.told[0] == word:
            forms = forms_behind(outline, sheet, at)
            for other in sheets:
                corners = _corners_behind(outline, other, forms) if other.told[0] != word else []
                if len(corners) > 0:
                    return sheet.told, middle_place(corners)
    return None


def _rising_prices(good, number, word):
    """The pair of PRICES between which a THING alone rises, and STEP 0 loses this word, or None."""
    outline = Outline(good)
    need_number(number, len(outline.found))
    if number not in outline.moving:
        return None
    at = outline.moving.index(number)
    rise = _rise(outline, coming_sheets(outline, 0), at, word)
    if rise is None:
        return None
    words, place = rise
    for sheet in sheets_between(outline, 0, line_corners(outline, place, at), 0):
        if sheet.told == words:
            return middle_prices(outline, sheet.corners), prices_at(outline, place)
    return None


def drop_by(good, number):
    """A pair of PRICES by which a THING drops the GOOD, the second ones dearer at it alone, or None."""
    return _rising_prices(good, number, 1)


def lift_by(good, number):
    """A pair of PRICES by which a THING lifts the GOOD, the second ones dearer at it alone, or None."""
    return _rising_prices(good, number, 0)


def moody(good):
    """The ascending tuple of the numbers of all THINGS that can drop the GOOD, and lift it."""
    outline = Outline(good)
    sheets = coming_sheets(outline, 0)
    rows = []
    for at, number in enumerate(outline.moving):
        if _rise(outline, sheets, at, 0) is not None and _rise(outline, sheets, at, 1) is not None:
            rows.append(number)
    return tuple(rows)
