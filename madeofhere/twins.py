"""TWINS: GOODS with the same prices, and at which of these STEP 0 of the one has another word than the other one's."""

from madeofhere.errors import BadGood
from madeofhere.goods import HIGH, LOW
from madeofhere.outlines import Outline
from madeofhere.sheets import coming_sheets, sheets_between


def unlike_number(found, others):
    """The number of the first THING of which LOW or HIGH are others in two GOODS, or which one of them alone has.

    None if the GOODS are TWINS.
    """
    for number, (thing, other) in enumerate(zip(found, others)):
        if thing[LOW] != other[LOW] or thing[HIGH] != other[HIGH]:
            return number
    return None if len(found) == len(others) else min(len(found), len(others))


def twin_outlines(good, other):
    """The outlines of a GOOD and of a TWIN of it, whose FORMS of STEPS stand behind those of the GOOD."""
    one = Outline(good)
    two = Outline(other, len(one.made))
    need_twin(one, two)
    return one, two


def need_twin(one, two):
    """Refuse the GOOD of the second outline if it is no TWIN of that of the first one."""
    number = unlike_number(one.found, two.found)
    if number is not None:
        raise BadGood(number, "twin")


def corners_apart(one, two, words):
    """Corners between which STEP 0 of the one GOOD has one of these words, and that of the other one has not.

    None if there are no such PRICES; the middle of the corners is among them. The FORMS of the two outlines have
    numbers of their own, and their sums are of the same prices.
    """
    for sheet in coming_sheets(one, 0):
        word = sheet.told[0]
        if word in words:
            for inner in sheets_between(two, 0, sheet.corners, sheet.zeros):
                if inner.told[0] != word:
                    return inner.corners
    return None
