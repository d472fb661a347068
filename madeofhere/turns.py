"""One price alone: at which prices of a THING the WORDS turn, all other prices being as they are.

A *stretch* is all of a LINE that has the same WORDS: (FIRST, LAST, BEGINS, ENDS, WORDS), from one price to another one,
both integers in a unit that all stretches of the LINE share; BEGINS and ENDS are 1 if these two prices are of it, too.
"""

from math import lcm

from madeofhere.counts import words_at
from madeofhere.goods import LOW, need_number
from madeofhere.money import lowest_terms, need_prices
from madeofhere.outlines import Outline, place_of
from madeofhere.sheets import line_corners, sheets_between


def _stretch(sheet, at, unit):
    """The stretch of a sheet on a LINE."""
    ends = []
    for place, bits in sheet.corners:
        ends.append((place[at] * (unit // place[3]), int((bits & sheet.zeros) == 0)))
    first, begins = min(ends)
    last, ends_too = max(ends)
    return first, last, begins, ends_too, sheet.told


def _stretches(good, prices, number):
    """All stretches of the LINE of a THING in turn, and the unit that their prices and that of the THING are in."""
    outline = Outline(good)
    need_prices(outline.found, prices)
    need_number(number, len(outline.found))
    if number not in outline.moving:
        low = outline.found[number][LOW]
        return [(low, low, 1, 1, words_at(good, prices))], 1
    at = outline.moving.index(number)
    sheets = sheets_between(outline, 0, line_corners(outline, place_of(outline, prices), at), 0)
    unit = prices[number][1]
    for sheet in sheets:
        for place, _ in sheet.corners:
            unit = lcm(unit, place[3])
    # What is one price alone stands ahead of what lies behind this price, and behind what lies ahead of it.
    return sorted([_stretch(sheet, at, unit) for sheet in sheets]), unit


def _here_stretches(rows):
    """The stretches of the word of STEP 0, of those of WORDS."""
    merged = []
    for first, last, begins, ends, words in rows:
        word = words[0]
        if len(merged) > 0 and merged[-1][4] == word:
            first, _, begins, _, _ = merged.pop()
        merged.append((first, last, begins, ends, word))
    return merged


def _turns_of(rows, unit):
    """The TURNS where these stretches begin."""
    told = []
    price = at = behind = None
    for first, last, begins, _, words in rows:
        if first != price:
            if price is not None:
                told.append((lowest_terms(price, unit), at, behind))
            # Where a stretch begins behind a price, this price still has what goes ahead of it.
            at = words if begins == 1 else behind
        price = first
        behind = words if first < last else None
    told.append((lowest_terms(price, unit), at, behind))
    return tuple(told)


def turns(good, prices, number):
    """The TURNS of the LINE of a THING: triples of a FRACTION, and of the WORDS at it and behind it."""
    rows, unit = _stretches(good, prices, number)
    return _turns_of(rows, unit)


def here_turns(good, prices, number):
    """The HERE TURNS of the LINE of a THING: triples of a FRACTION, and of the word of STEP 0 at it and behind it."""
    rows, unit = _stretches(good, prices, number)
    return _turns_of(_here_stretches(rows), unit)


def _way_to(row, price):
    """How far a price is from a stretch, and 0 if the price of it that is so far is of it, otherwise 1.

    None if the stretch has the price itself.
    """
    first, last, begins, ends, _ = row
    if price < first or (price == first and begins == 0):
        return first - price, 1 - begins
    if price > last or (price == last and ends == 0):
        return price - last, 1 - ends
    return None


def move_of(good, prices, number):
    """The MOVE of a THING, or None if STEP 0 has the other word nowhere on its LINE."""
    rows, unit = _stretches(good, prices, number)
    part, of = prices[number]
    merged = _here_stretches(rows)
    ways = [_way_to(row, part * (unit // of)) for row in merged]
    word = merged[ways.index(None)][4]
    others = [way for way, row in zip(ways, merged) if row[4] != word]
    if len(others) == 0:
        return None
    far, missed = min(others)
    return lowest_terms(far, unit), 1 - missed
