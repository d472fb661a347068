"""What DOC.md says of WORDS, FORMS and CORNERS, reckoned slowly and by its very words, with Fractions of Python's."""

import itertools
from fractions import Fraction
from math import gcd, lcm

from tests.samples import ratio, told


def all_things(thing):
    inside = thing[5] if thing[0] == "made" else ()
    return [thing] + [one for part in inside for one in all_things(part)]


def many_steps(good):
    return len([thing for thing in all_things(good) if thing[0] == "made"])


def moving(good):
    return [number for number, thing in enumerate(all_things(good)) if thing[2] < thing[3]]


def all_words(good):
    return list(itertools.product((0, 1), repeat=many_steps(good)))


def told_sums(good, prices, words):
    """For each step the triple of COST, OWN and SHARE, what COUNTS being told by the words, whatever the OWNS are."""
    amounts = iter(prices)
    left = iter(words)
    rows = []

    def sums(thing):
        amount = next(amounts)
        own = amount if thing[1] == "here" else Fraction(0)
        if thing[0] == "raw":
            return amount, own
        word = next(left)
        at = len(rows)
        rows.append(None)
        inside = [sums(part) for part in thing[5]]
        cost = amount + sum(row[0] for row in inside)
        own += sum(row[1] for row in inside)
        share, up, down = thing[4]
        rows[at] = (cost, own, share)
        if word == 1:
            return cost, cost if up == "whole" else own
        return cost, own if down == "own" else Fraction(0)

    sums(good)
    return rows


def forms_at(good, words, prices):
    """What each FORM comes to at prices, Fractions, which need not lie between LOW and HIGH."""
    values = []
    for thing, price in zip(all_things(good), prices):
        if thing[2] < thing[3]:
            values += [price - thing[2], thing[3] - price]
    for (cost, own, share), word in zip(told_sums(good, prices, words), words):
        values.append(100 * own - share * cost if word == 1 else share * cost - 100 * own)
    return values


def slow_forms(good, words):
    """The FORMS, found from what they come to where no price moves, and where one of them alone is 1."""
    at = [Fraction(0) if thing[2] < thing[3] else Fraction(thing[2]) for thing in all_things(good)]
    rest = forms_at(good, words, at)
    columns = []
    for number in moving(good):
        there = at[:number] + [Fraction(1)] + at[number + 1:]
        columns.append([value - less for value, less in zip(forms_at(good, words, there), rest)])
    return tuple(tuple(column[k] for column in columns) + (rest[k],) for k in range(len(rest)))


def meeting(rows):
    """The one point at which as many forms as there are prices are 0, or None."""
    many = len(rows)
    table = [[Fraction(number) for number in row[:-1]] + [-Fraction(row[-1])] for row in rows]
    for at in range(many):
        first = next((k for k in range(at, many) if table[k][at] != 0), None)
        if first is None:
            return None
        table[at], table[first] = table[first], table[at]
        table[at] = [number / table[at][at] for number in table[at]]
        for k in range(many):
            if k != at:
                table[k] = [number - table[k][at] * more for number, more in zip(table[k], table[at])]
    return tuple(row[-1] for row in table)


def form_value(form, point):
    return sum(number * price for number, price in zip(form, point)) + form[-1]


def reduced(row, picked):
    """A row without the columns that the picked ones are for, as integers; None if nothing of it is left."""
    for column, other in picked:
        if row[column]:
            times, many = other[column], row[column]
            row = [times * number - many * more for number, more in zip(row, other)]
    shared = gcd(*row[:-1])
    if shared == 0:
        return None
    shared = gcd(shared, row[-1])
    return [number // shared for number in row]


def solved(picked):
    """The point at which rows are 0 of which each one has no column that those ahead of it are for."""
    point = [Fraction(0)] * len(picked)
    for column, row in reversed(picked):
        point[column] = -Fraction(sum(number * price for number, price in zip(row, point)) + row[-1], 1) / row[column]
    return tuple(point)


def system_points(rows):
    """The corners of where no row is below 0, by trying all choices of rows that are 0; it has to be bounded."""
    rows = [[int(number) for number in row] for row in rows]
    many = len(rows[0]) - 1
    points = set()

    def pick(start, picked):
        if len(picked) == many:
            points.add(solved(picked))
            return
        for at in range(start, len(rows)):
            row = reduced(rows[at], picked)
            if row is not None:
                column = next(k for k in range(many) if row[k])
                pick(at + 1, picked + [(column, row)])

    pick(0, [])
    return sorted(point for point in points if is_in_system(rows, point))


def is_in_system(rows, point):
    unit = lcm(*[price.denominator for price in point])
    parts = [int(price * unit) for price in point] + [unit]
    return all(sum(number * part for number, part in zip(row, parts)) >= 0 for row in rows)


def slow_points(good, words):
    """The points of all corners, by trying all choices of forms that are 0."""
    return system_points(slow_forms(good, words))


def prices_of_point(good, point):
    prices = [(thing[2], 1) for thing in all_things(good)]
    for number, price in zip(moving(good), point):
        prices[number] = told(price)
    return tuple(prices)


def slow_corners(good, words):
    return tuple(prices_of_point(good, point) for point in slow_points(good, words))


def slow_do_come(good, words, points):
    """Whether words come, by the points of the corners: those of word 0 are above 0 somewhere, so in the middle."""
    zeros = [2 * len(moving(good)) + step for step, word in enumerate(words) if word == 0]
    rows = slow_forms(good, words)
    return bool(points) and all(any(form_value(rows[k], point) > 0 for point in points) for k in zeros)


def slow_coming(good):
    """A dict of all words that come, with the points of their corners."""
    found = {words: slow_points(good, words) for words in all_words(good)}
    return {words: points for words, points in found.items() if slow_do_come(good, words, points)}


def slow_do_bar(good, words, weights):
    """Whether a tuple of integers are WEIGHTS that bar words."""
    rows = slow_forms(good, words)
    if len(weights) != len(rows) or min(weights) < 0 or max(weights) == 0:
        return False
    total = [sum(weight * row[k] for weight, row in zip(weights, rows)) for k in range(len(rows[0]))]
    above = [weight for weight, word in zip(weights[2 * len(moving(good)):], words) if word == 0 and weight > 0]
    return not any(total[:-1]) and (total[-1] < 0 or (total[-1] == 0 and bool(above)))


def mean(rows):
    return tuple(sum(column) / len(rows) for column in zip(*rows))


def as_ratios(prices):
    return [ratio(price) for price in prices]


def with_share(good, share):
    """The good with another SHARE of STEP 0."""
    return good[:4] + ((share,) + good[4][1:],) + good[5:]
