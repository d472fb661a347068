"""GOODS and PRICES as texts, and read back from them."""

from math import gcd

from madeofhere.errors import BadText
from madeofhere.goods import HIGH, LAND, LOW, MAKING, RULE, look_over, need_good
from madeofhere.kinds import is_one_of
from madeofhere.money import need_prices

MOST_FIGURES = 7
MOST_FIGURES_OF_PRICES = 30


def are_figures(word, most):
    """Whether a string is an integer from 0 on, of so many figures at most, without a needless 0."""
    if not 1 <= len(word) <= most or not word.isascii() or not word.isdigit():
        return False
    return word == "0" or word[0] != "0"


def are_integers(words):
    """Whether strings are integers as they stand in texts."""
    return all([are_figures(word, MOST_FIGURES) for word in words])


def is_told_rule(words):
    """Whether strings are SHARE, UP and DOWN as they stand in texts; the SHARE may be too great for a RULE."""
    if len(words) != 3:
        return False
    share, up, down = words
    return are_integers([share]) and is_one_of(up, ("whole", "own")) and is_one_of(down, ("own", "none"))


def fraction_text(fraction):
    """A FRACTION as PART/OF."""
    part, of = fraction
    return f"{part}/{of}"


def told_fraction(word):
    """The FRACTION that a string is, or None."""
    figures = word.split("/")
    if len(figures) != 2 or not all([are_figures(some, MOST_FIGURES_OF_PRICES) for some in figures]):
        return None
    part, of = int(figures[0]), int(figures[1])
    return (part, of) if of > 0 and gcd(part, of) == 1 else None


def _row_of(thing, points):
    """The row of a THING that stands within so many others."""
    words = [thing[MAKING], thing[LAND], str(thing[LOW]), str(thing[HIGH])]
    if thing[MAKING] == "made":
        share, up, down = thing[RULE]
        words += [str(share), up, down]
    if points > 0:
        words = ["." * points, *words]
    return " ".join(words)


def good_text(good):
    """The text of a GOOD: a row for each THING in turn."""
    found, wholes, _, _ = look_over(good)
    points = [0]
    for whole in wholes[1:]:
        points.append(points[whole] + 1)
    return "\n".join([_row_of(thing, many) for thing, many in zip(found, points)])


def _told_thing(words):
    """The THING that the words of a row tell, without its PARTS, or None."""
    if len(words) < 4 or not is_one_of(words[1], ("here", "away")) or not are_integers(words[2:4]):
        return None
    word, land, low, high, *rule = words
    if word == "raw" and len(rule) == 0:
        return word, land, int(low), int(high)
    if word == "made" and is_told_rule(rule):
        share, up, down = rule
        return word, land, int(low), int(high), (int(share), up, down)
    return None


def _told_row(row):
    """The pair of the points of a row and of the THING that it tells, without its PARTS, or None."""
    words = row.split(" ")
    points = len(words[0])
    # A row that begins with a blank has an empty first word, and that is neither points nor a word that may stand.
    if points > 0 and words[0] == "." * points:
        words = words[1:]
    else:
        points = 0
    thing = _told_thing(words)
    return None if thing is None else (points, thing)


def _may_follow(rows, points):
    """Whether a row with so many points may stand behind these rows."""
    if len(rows) == 0:
        return points == 0
    ahead, thing = rows[-1]
    return 1 <= points <= (ahead + 1 if thing[MAKING] == "made" else ahead)


def _built(rows):
    """The THING of the first row, with all others in it."""
    # From the last row on: so the PARTS of a THING are there when it is built, the first one put there last.
    waiting = {}
    for points, thing in reversed(rows):
        inside = waiting.pop(points + 1, [])
        inside.reverse()
        waiting.setdefault(points, []).append((*thing, tuple(inside)) if thing[MAKING] == "made" else thing)
    return waiting[0][0]


def read_good(string):
    """The GOOD of a text."""
    if not isinstance(string, str):
        raise BadText(0)
    rows = []
    for at, row in enumerate(string.split("\n")):
        told = _told_row(row)
        if told is None or not _may_follow(rows, told[0]):
            raise BadText(at + 1)
        rows.append(told)
    return need_good(_built(rows))


def prices_text(good, prices):
    """The text of PRICES."""
    found, _, _, _ = look_over(good)
    return " ".join([fraction_text(price) for price in need_prices(found, prices)])


def read_prices(good, string):
    """The PRICES of a text."""
    found, _, _, _ = look_over(good)
    if not isinstance(string, str):
        raise BadText(0)
    prices = [told_fraction(word) for word in string.split(" ")]
    if len(prices) != len(found) or None in prices:
        raise BadText(1)
    return need_prices(found, tuple(prices))
