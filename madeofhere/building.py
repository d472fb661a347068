"""GOODS made anew, with something else in them."""

from madeofhere.goods import PARTS


def put(row, at, value):
    """A tuple with another value at a place."""
    return (*row[:at], value, *row[at + 1:])


def with_thing(found, wholes, number, thing):
    """A GOOD with another THING in the place of one of its own; all that this is within is made anew, too."""
    while number > 0:
        whole = wholes[number]
        # Its place among the PARTS: as many of them have a number less than its own.
        at = wholes[:number].count(whole)
        thing = put(found[whole], PARTS, put(found[whole][PARTS], at, thing))
        number = whole
    return thing
