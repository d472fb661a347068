"""Whether a GOOD is surely of here, or never, and the papers that show it."""

from itertools import combinations
from math import gcd

from madeofhere.counts import is_of_here
from madeofhere.errors import BadPaper, BadPrices
from madeofhere.kinds import are_words, is_one_of, is_row_of, is_whole
from madeofhere.outlines import UNITS, ZERO, Outline, all_forms, form_number, mixed, need_words, zero_bits
from madeofhere.sheets import coming_sheets, cut, middle_prices, outer_corners, tied


def is_sure(good):
    """Whether a GOOD is of here at all PRICES."""
    return all([sheet.told[0] == 1 for sheet in coming_sheets(Outline(good), 0)])


def is_never(good):
    """Whether a GOOD is of here at no PRICES."""
    return all([sheet.told[0] == 0 for sheet in coming_sheets(Outline(good), 0)])


def _volume(one, other, last):
    """The determinant of three sums without their rests."""
    a, b, c, _ = one
    d, e, f, _ = other
    g, h, i, _ = last
    return a * (e * i - f * h) - b * (d * i - f * g) + c * (d * h - e * g)


def _times_to_cancel(form, others):
    """How many times a form, and how many times three others, have no price together: all from 0 on, the first above 0.

    None if there are no such integers.
    """
    one, other, last = others
    many = _volume(one, other, last)
    times = (-_volume(form, other, last), -_volume(one, form, last), -_volume(one, other, form))
    if many < 0:
        many = -many
        times = (-times[0], -times[1], -times[2])
    if many == 0 or min(times) < 0:
        return None
    return (many, *times)


def _in_least_terms(weights):
    shared = 0
    for weight in weights:
        shared = gcd(shared, weight)
    return tuple([weight // shared for weight in weights])


def _weights_against(outline, rows, chosen, corners):
    """WEIGHTS by which the chosen one of the FORMS has no price any more together with others that hold it back.

    Where a form is greatest between corners, it is held back by some of the forms that are 0 there, as many as there
    are prices; the sum then is what the chosen one comes to there.
    """
    many = len(outline.moving)
    for _, bits in corners:
        tight = [number for number in range(len(rows)) if (bits >> number) & 1 == 1 and number != chosen]
        for picked in combinations(tight, many):
            # The prices that are not there need nothing to hold them back: so the units of them stand for it.
            times = _times_to_cancel(rows[chosen], [rows[number] for number in picked] + list(UNITS[many:]))
            if times is not None:
                weights = [0] * len(rows)
                weights[chosen] = times[0]
                for number, some in zip(picked, times[1:]):
                    weights[number] = some
                return _in_least_terms(weights)
    return None


def _weights_of(outline, words):
    """WEIGHTS that bar WORDS, or None."""
    rows = all_forms(outline, words)
    zeros = zero_bits(outline, words)
    corners = outer_corners(outline)
    # The FORMS of the STEPS cut in turn, until one leaves nothing, or leaves one that would be above 0 only 0.
    for number in range(form_number(outline, 0), len(rows)):
        left = cut(corners, rows[number], 1 << number)
        if len(left) == 0:
            return _weights_against(outline, rows, number, corners)
        stuck = tied(left, zeros)
        if stuck != 0:
            return _weights_against(outline, rows, stuck.bit_length() - 1, left)
        corners = left
    return None


def _do_bar(outline, words, thing):
    """Whether any value is WEIGHTS that bar WORDS."""
    rows = all_forms(outline, words)
    if not is_row_of(thing, len(rows)):
        return False
    total = ZERO
    for weight, row in zip(thing, rows):
        if not is_whole(weight) or weight < 0:
            return False
        total = mixed(row, weight, total, 1)
    if total[:3] != (0, 0, 0):
        return False
    weights = thing[form_number(outline, 0):]
    return total[3] < 0 or (total[3] == 0 and any([weight > 0 for weight, word in zip(weights, words) if word == 0]))


def weights_for(good, words):
    """WEIGHTS that bar WORDS, or None."""
    outline = Outline(good)
    return _weights_of(outline, need_words(outline, words))


def do_bar(good, words, thing):
    """Whether any value is WEIGHTS that bar WORDS."""
    outline = Outline(good)
    return _do_bar(outline, need_words(outline, words), thing)


def _words_without_here(outline):
    """The ascending list of all WORDS of which the first one is 0."""
    rows = [(0,)]
    for _ in outline.made[1:]:
        rows = [(*row, word) for row in rows for word in (0, 1)]
    return rows


def sure_paper(good):
    """A paper on whether a GOOD is surely of here: that nothing else comes, or PRICES at which it is not."""
    outline = Outline(good)
    for sheet in coming_sheets(outline, 0):
        if sheet.told[0] == 0:
            return "fails", middle_prices(outline, sheet.corners)
    return "surely", tuple([(words, _weights_of(outline, words)) for words in _words_without_here(outline)])


def _are_rows(outline, rows):
    """Whether a tuple has all WORDS of which the first one is 0, ascending, each with WEIGHTS that bar them."""
    expected = _words_without_here(outline)
    if len(rows) != len(expected):
        return False
    for row, words in zip(rows, expected):
        if not is_row_of(row, 2) or not are_words(row[0], len(words)) or row[0] != words:
            return False
        if not _do_bar(outline, words, row[1]):
            return False
    return True


def _do_fail(good, prices):
    """Whether a tuple is PRICES at which a GOOD is not of here."""
    try:
        return not is_of_here(good, prices)
    except BadPrices:
        return False


def check_sure(good, paper):
    """The word of a paper on whether a GOOD is surely of here."""
    outline = Outline(good)
    if not is_row_of(paper, 2) or not is_one_of(paper[0], ("surely", "fails")) or not isinstance(paper[1], tuple):
        raise BadPaper("form")
    word, told = paper
    if word == "surely" and not _are_rows(outline, told):
        raise BadPaper("surely")
    if word == "fails" and not _do_fail(good, told):
        raise BadPaper("fails")
    return word
