"""What is the same for all WORDS of a GOOD: its sums of prices, and the FORMS that are made of them.

A *sum* is a tuple of four integers: what the prices of the THINGS of moves(good), three at most, are taken times, and
the rest; there are zeros where there are less than three. A *place* is four integers too, (X, Y, Z, OF), OF above 0:
the PRICES where these prices are X, Y, Z divided by OF.
"""

from madeofhere.errors import BadWords
from madeofhere.goods import HIGH, LAND, LOW, MAKING, RULE, look_over
from madeofhere.kinds import are_words
from madeofhere.money import common_unit, in_units, lowest_terms

UNITS = ((1, 0, 0, 0), (0, 1, 0, 0), (0, 0, 1, 0))
ZERO = (0, 0, 0, 0)


class Outline:
    """What look_over tells of a GOOD, and the COST and the OWN of each THING by its number, as sums.

    To the OWN belongs what COUNTS of PARTS that are raw, but nothing yet of those that are made: that hangs on WORDS.

    Where the GOOD stands beside another one, so many FORMS of STEPS of that one stand ahead of its own; and the prices
    in the sums are those of the THINGS of order, its moves(good) in the order of the same ones in that other GOOD.
    """

    def __init__(self, good, ahead=0, order=None):
        self.found, self.wholes, self.made, moving = look_over(good)
        self.moving = moving if order is None else order
        self.ahead = ahead
        spent = [(0, 0, 0, thing[LOW]) for thing in self.found]
        for unit, number in zip(UNITS, self.moving):
            spent[number] = unit
        own = [amount if thing[LAND] == "here" else ZERO for amount, thing in zip(spent, self.found)]
        # PARTS have greater numbers than what is made of them, so from the end all that is in a THING is added by then.
        for number in reversed(range(1, len(self.found))):
            whole = self.wholes[number]
            spent[whole] = added(spent[whole], spent[number])
            if self.found[number][MAKING] == "raw":
                own[whole] = added(own[whole], own[number])
        self.spent = spent
        self.own = own


def added(one, other):
    """The sum of two sums."""
    a, b, c, rest = one
    x, y, z, more = other
    return a + x, b + y, c + z, rest + more


def mixed(one, times, other, many):
    """So many times a sum, and so many times another one."""
    a, b, c, rest = one
    x, y, z, more = other
    return times * a + many * x, times * b + many * y, times * c + many * z, times * rest + many * more


def worth(amount, place):
    """What a sum comes to at a place, times the OF of the place."""
    a, b, c, rest = amount
    x, y, z, of = place
    return a * x + b * y + c * z + rest * of


def place_of(outline, prices):
    """The place that PRICES are."""
    chosen = [prices[number] for number in outline.moving]
    unit = common_unit(chosen)
    x, y, z = (*in_units(chosen, unit), 0, 0, 0)[:3]
    return x, y, z, unit


def prices_at(outline, place):
    """The PRICES at a place."""
    prices = [(thing[LOW], 1) for thing in outline.found]
    for at, number in enumerate(outline.moving):
        prices[number] = lowest_terms(place[at], place[3])
    return tuple(prices)


def need_words(outline, words):
    """The very value, if it is a tuple of 1 or 0 for each STEP."""
    if not are_words(words, len(outline.made)):
        raise BadWords(words)
    return words


def told_here(outline, number, own):
    """100 times the OWN of a STEP, a sum, less SHARE times its COST."""
    return mixed(own, 100, outline.spent[number], -outline.found[number][RULE][0])


def with_word(outline, owns, number, word):
    """The OWNS by the numbers of all THINGS, with what COUNTS of a STEP with this word added where it is a PART."""
    if number == 0:
        return owns
    _, up, down = outline.found[number][RULE]
    if word == 1:
        counts = outline.spent[number] if up == "whole" else owns[number]
    else:
        counts = owns[number] if down == "own" else ZERO
    whole = outline.wholes[number]
    fuller = list(owns)
    fuller[whole] = added(owns[whole], counts)
    return fuller


def bound_forms(outline):
    """The list of the FORMS of the THINGS of which LOW is less than HIGH."""
    rows = []
    for (a, b, c, _), number in zip(UNITS, outline.moving):
        thing = outline.found[number]
        rows.append((a, b, c, -thing[LOW]))
        rows.append((-a, -b, -c, thing[HIGH]))
    return rows


def step_forms(outline, words):
    """The list of the FORMS of the STEPS, sums."""
    owns = outline.own
    rows = []
    # What COUNTS of the STEPS within a STEP is told ahead of it, from the last one on.
    for number, word in reversed(list(zip(outline.made, words))):
        form = told_here(outline, number, owns[number])
        rows.append(form if word == 1 else mixed(form, -1, ZERO, 0))
        owns = with_word(outline, owns, number, word)
    rows.reverse()
    return rows


def all_forms(outline, words):
    """The list of all FORMS of WORDS, sums."""
    return bound_forms(outline) + step_forms(outline, words)


def told_forms(outline, rows):
    """The tuple of FORMS as they are told: what the prices of moves(good) are taken times, and the rest."""
    many = len(outline.moving)
    return tuple([(*row[:many], row[3]) for row in rows])


def form_number(outline, step):
    """The number of the FORM of a STEP among all FORMS."""
    return 2 * len(outline.moving) + outline.ahead + step


def zero_bits(outline, words):
    """The bits of the FORMS of the STEPS with the word 0, the bit of a FORM being 1 << its number."""
    return sum([1 << form_number(outline, step) for step, word in enumerate(words) if word == 0])


def every_words(outline):
    """The ascending list of all tuples of 1 or 0 for each STEP."""
    rows = [()]
    for _ in outline.made:
        rows = [(*row, word) for row in rows for word in (0, 1)]
    return rows
