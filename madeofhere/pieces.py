"""The PIECES of a GOOD: at which PRICES it has which WORDS, told by FORMS and by CORNERS."""

from madeofhere.outlines import Outline, all_forms, need_words, prices_at, told_forms, zero_bits
from madeofhere.sheets import coming_sheets, corners_of, has_inside, middle_prices, places_in_one_unit


def forms(good, words):
    """The tuple of the FORMS of WORDS, each a tuple of what the prices of moves(good) are taken times, and the rest."""
    outline = Outline(good)
    return told_forms(outline, all_forms(outline, need_words(outline, words)))


def corners(good, words):
    """The tuple of the CORNERS of the SHEET of WORDS, ascending as numbers, price by price."""
    outline = Outline(good)
    # With the same OF they ascend as numbers just if they ascend as integers.
    places = sorted(places_in_one_unit(corners_of(outline, need_words(outline, words))))
    return tuple([prices_at(outline, place) for place in places])


def prices_for(good, words):
    """PRICES at which the GOOD has these WORDS, or None."""
    outline = Outline(good)
    found = corners_of(outline, need_words(outline, words))
    return middle_prices(outline, found) if has_inside(found, zero_bits(outline, words)) else None


def do_come(good, words):
    """Whether there are PRICES at which the GOOD has these WORDS."""
    outline = Outline(good)
    found = corners_of(outline, need_words(outline, words))
    return has_inside(found, zero_bits(outline, words))


def coming(good):
    """The ascending tuple of all WORDS that come."""
    return tuple(sorted([sheet.told for sheet in coming_sheets(Outline(good), 0)]))
