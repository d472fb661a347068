"""FRACTIONS, and PRICES made of them."""

from math import gcd, lcm

from madeofhere.errors import BadPrices
from madeofhere.goods import HIGH, LOW, things
from madeofhere.kinds import is_row_of, is_whole


def is_fraction(value):
    """Whether any value is a FRACTION."""
    if not is_row_of(value, 2):
        return False
    part, of = value
    return is_whole(part) and is_whole(of) and of >= 1 and gcd(part, of) == 1


def lowest_terms(part, of):
    """The FRACTION that is PART divided by OF, an integer above 0."""
    shared = gcd(part, of)
    return part // shared, of // shared


def is_price(value, thing):
    """Whether any value is a FRACTION from the LOW to the HIGH of a THING."""
    if not is_fraction(value):
        return False
    part, of = value
    return thing[LOW] * of <= part <= thing[HIGH] * of


def need_prices(good, prices):
    """The very value, if it is PRICES of the GOOD."""
    found = things(good)
    if not is_row_of(prices, len(found)):
        raise BadPrices(None)
    for number, thing in enumerate(found):
        if not is_price(prices[number], thing):
            raise BadPrices(number)
    return prices


def common_unit(prices):
    """The least OF with which all of the prices can be written."""
    unit = 1
    for price in prices:
        unit = lcm(unit, price[1])
    return unit


def in_units(prices, unit):
    """The list of the PARTS of the prices when each has the unit as its OF."""
    return [part * (unit // of) for part, of in prices]
