"""The least and the greatest PORTION of a GOOD, and the SHARES that could be asked for."""

from madeofhere.errors import BadFraction
from madeofhere.money import is_fraction, lowest_terms
from madeofhere.outlines import Outline, mixed, worth
from madeofhere.sheets import coming_sheets, has_inside, middle_prices, parted


def _edge_portion(outline, sheets, sign):
    """The least PORTION at all corners of sheets, or, if the sign is -1, the greatest one."""
    best_part = best_of = None
    for sheet in sheets:
        for place, _ in sheet.corners:
            part = worth(sheet.owns[0], place)
            of = worth(outline.spent[0], place)
            if best_of is None or sign * (part * best_of - best_part * of) < 0:
                best_part = part
                best_of = of
    return lowest_terms(best_part, best_of)


def _gap(outline, sheet, fraction):
    """A sum that is 0 where the PORTION is this FRACTION."""
    part, of = fraction
    return mixed(sheet.owns[0], of, outline.spent[0], -part)


def _is_reached(outline, sheets, fraction):
    """Whether a PORTION beyond which there is none is that at some PRICES of the sheets."""
    for sheet in sheets:
        gap = _gap(outline, sheet, fraction)
        if has_inside([corner for corner in sheet.corners if worth(gap, corner[0]) == 0], sheet.zeros):
            return True
    return False


def _edge(good, sign):
    """The LEAST PORTION, or, if the sign is -1, the GREATEST PORTION."""
    outline = Outline(good)
    # The PORTION does not hang on the word of STEP 0.
    sheets = coming_sheets(outline, 1)
    fraction = _edge_portion(outline, sheets, sign)
    return fraction, int(_is_reached(outline, sheets, fraction))


def least_portion(good):
    """The LEAST PORTION: a pair of a FRACTION, and of 1 if it is the PORTION at some PRICES, otherwise 0."""
    return _edge(good, 1)


def greatest_portion(good):
    """The GREATEST PORTION, told as the LEAST PORTION is."""
    return _edge(good, -1)


def prices_of(good, fraction):
    """PRICES at which the PORTION is a FRACTION, or None."""
    outline = Outline(good)
    if not is_fraction(fraction, 0, 1):
        raise BadFraction(fraction)
    for sheet in coming_sheets(outline, 1):
        # Nothing is cut behind this, so what it is cut by needs no bit.
        _, within, _ = parted(sheet.corners, _gap(outline, sheet, fraction), 0)
        if has_inside(within, sheet.zeros):
            return middle_prices(outline, within)
    return None


def _share_up_to(fraction):
    """The greatest SHARE of which this PORTION is enough."""
    part, of = fraction
    return 100 * part // of


def most_sure(good):
    """The greatest SHARE that the RULE of STEP 0 could have such that the GOOD is surely of here."""
    return _share_up_to(least_portion(good)[0])


def most_ever(good):
    """The greatest SHARE that the RULE of STEP 0 could have such that the GOOD is of here at some PRICES."""
    return _share_up_to(greatest_portion(good)[0])
