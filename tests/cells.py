"""Slow reckonings over all cells: prices at all crossings of FORMS and in the middles between, and corners of systems.

Nothing here uses the package, but tests/slow.py and the words of the document.
"""

import itertools
from fractions import Fraction
from math import gcd

from tests.slow import all_things, all_words, form_value, moving, slow_forms, system_points


def words_of(good, amounts):
    """The WORDS at amounts, a list of a price for each THING."""
    left = iter(amounts)
    words = []

    def tally(thing):
        amount = next(left)
        own = amount if thing[1] == "here" else 0
        if thing[0] == "raw":
            return amount, own
        at = len(words)
        words.append(None)
        cost = amount
        for part in thing[5]:
            more, counts = tally(part)
            cost += more
            own += counts
        share, up, down = thing[4]
        words[at] = int(100 * own >= share * cost)
        if words[at]:
            return cost, cost if up == "whole" else own
        return cost, own if down == "own" else 0

    tally(good)
    return tuple(words)


def words_at_point(good, point):
    """The WORDS where the prices of the THINGS that move are those of a point."""
    amounts = [thing[2] for thing in all_things(good)]
    for number, price in zip(moving(good), point):
        amounts[number] = price
    return words_of(good, amounts)


def as_told_once(rows):
    """Rows without those that are 0 at the same points as another one, or at none, or at all."""
    told = set()
    for row in [[int(number) for number in row] for row in rows]:
        if any(row[:-1]):
            shared = gcd(*row)
            first = next(number for number in row if number)
            told.add(tuple(number // (shared if first > 0 else -shared) for number in row))
    return sorted(told)


def all_rows(*goods):
    """All FORMS of all WORDS of GOODS."""
    return as_told_once([row for good in goods for words in all_words(good) for row in slow_forms(good, words)])


def sides(good):
    return [all_things(good)[number][2:4] for number in moving(good)]


def along(rows, low, high):
    """All prices where rows of one price are 0, the bounds, and the middles between, ascending."""
    at = {Fraction(low), Fraction(high)} | {Fraction(-rest, times) for times, rest in rows if times}
    at = sorted(price for price in at if low <= price <= high)
    return sorted(at + [(one + other) / 2 for one, other in zip(at, at[1:])])


def without_last(rows):
    """Rows that are 0 wherever two rows meet, without the last price, and those that do not have it."""
    having = [row for row in rows if row[-2]]
    told = [row[:-2] + row[-1:] for row in rows if not row[-2]]
    for one, other in itertools.combinations(having, 2):
        mixed = [number * other[-2] - more * one[-2] for number, more in zip(one, other)]
        told.append(tuple(mixed[:-2] + mixed[-1:]))
    return as_told_once(told)


def at_start(rows, point):
    """Rows of the last price alone, the others being those of a point."""
    told = []
    for row in rows:
        unit = Fraction(sum(number * price for number, price in zip(row, point)) + row[-1])
        told.append((row[-2], unit))
    return told


def cell_points(rows, bounds):
    """Points in all cells that rows part, within bounds."""
    if not bounds:
        return [()]
    points = []
    for point in cell_points(without_last(rows), bounds[:-1]):
        points += [point + (price,) for price in along(at_start(rows, point), *bounds[-1])]
    return points


def points_of(*goods):
    """Points in all cells of TWINS."""
    return cell_points(all_rows(*goods), sides(goods[0]))


def turned(row, at):
    """A row, or a point, with the price at this place as the last one; the rest of a row stays behind it."""
    return row[:at] + row[at + 1:-1] + (row[at],) + row[-1:]


def lines_of(good, at):
    """In all cells of the other prices one line of the price at this place, as points on it, ascending."""
    bounds = sides(good)
    rows = as_told_once([turned(row, at) for row in all_rows(good)])
    lines = []
    for start in cell_points(without_last(rows), bounds[:at] + bounds[at + 1:]):
        lines.append([start[:at] + (price,) + start[at:] for price in along(at_start(rows, start), *bounds[at])])
    return lines


def point_above(rows, above):
    """A point at which no row is below 0, and those with these numbers are above 0, or None."""
    points = system_points(rows)
    if not points:
        return None
    middle = tuple(sum(column) / len(points) for column in zip(*points))
    return middle if all(form_value(rows[at], middle) > 0 for at in above) else None


def zero_rows(words, ahead):
    return [ahead + step for step, word in enumerate(words) if word == 0]


def slow_apart(good, other, word):
    """A point where STEP 0 of the GOOD has this word, and that of the other one has not, or None."""
    many = 2 * len(moving(good))
    for words in all_words(good):
        for others in all_words(other):
            if words[0] == word != others[0]:
                forms = slow_forms(good, words)
                rows = forms + slow_forms(other, others)[many:]
                point = point_above(rows, zero_rows(words, many) + zero_rows(others, len(forms)))
                if point is not None:
                    return point
    return None


def slow_rise(good, at, word):
    """Two points that differ at this price alone, STEP 0 having this word at the one with less, or None."""
    many = len(moving(good))
    for words in all_words(good):
        for others in all_words(good):
            if words[0] == word != others[0]:
                # Behind the prices of the one point stands this price of the other one.
                mine = [row[:-1] + (0,) + row[-1:] for row in slow_forms(good, words)]
                theirs = [row[:at] + (0,) + row[at + 1:-1] + (row[at],) + row[-1:] for row in slow_forms(good, others)]
                more = tuple(-int(k == at) for k in range(many)) + (1, 0)
                above = zero_rows(words, 2 * many) + zero_rows(others, len(mine) + 2 * many) + [len(mine + theirs)]
                point = point_above(mine + theirs + [more], above)
                if point is not None:
                    return point[:-1], point[:at] + (point[-1],) + point[at + 1:-1]
    return None
