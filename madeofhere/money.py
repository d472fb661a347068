"""FRACTIONS, and PRICES made of them."""

from math import gcd, lcm

from madeofhere.errors import BadPrices
from madeofhere.goods import HIGH, LOW


def is_fraction(value, least, most):
    """Whether any value is a FRACTION from the least to the most, which are integers."""
    # It is asked of each price in every call: so what kind the value is, is asked on the spot, and not of kinds.py.
    if not isinstance(value, tuple) or len(value) != 2:
        return False
    part, of = value
    if not isinstance(part, int) or isinstance(part, bool) or not isinstance(of, int) or isinstance(of, bool):
        return False
    return (of == 1 or (of > 1 and gcd(part, of) == 1)) and least * of <= part <= most * of


def lowest_terms(part, of):
    """The FRACTION that is PART divided by OF, an integer above 0."""
    shared = gcd(part, of)
    return part // shared, of // shared


def need_prices(found, prices):
    """The very value, if it is PRICES of the GOOD with these THINGS."""
    if not isinstance(prices, tuple) or len(prices) != len(found):
        raise BadPrices(None)
    for number, thing in enumerate(found):
        if not is_fraction(prices[number], thing[LOW], thing[HIGH]):
            raise BadPrices(number)
    return prices


def common_unit(prices):
    """The least OF with which all of the prices can be written."""
    unit = 1
    for _, of in prices:
        unit = lcm(unit, of)
    return unit


def in_units(prices, unit):
    """The list of the PARTS of the prices when each has the unit as its OF."""
    return [part * (unit // of) for part, of in prices]


def amounts_of(prices):
    """The list of the prices as integers, in the least unit that they share."""
    return in_units(prices, common_unit(prices))


def fractions_of(amounts, unit):
    """The tuple of the FRACTIONS that the integers are, each divided by the unit."""
    if unit == 1:
        return tuple([(amount, 1) for amount in amounts])
    return tuple([lowest_terms(amount, unit) for amount in amounts])
