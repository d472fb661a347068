"""Two GOODS beside one another: whether they are ALIKE, one NEVER LESS than the other, and the papers on it."""

from madeofhere.counts import is_of_here
from madeofhere.errors import BadPaper, BadPrices
from madeofhere.kinds import are_words, is_one_of, is_row_of
from madeofhere.outlines import (
    Outline, all_forms, bound_forms, every_words, need_words, step_forms, told_forms, zero_bits,
)
from madeofhere.sheets import middle_prices, outer_corners
from madeofhere.twins import corners_apart, need_twin, twin_outlines
from madeofhere.weights import are_barring, barring_weights


def both_forms(good, words, other, others):
    """The tuple of the FORMS of WORDS of both GOODS: of the bounds, of the STEPS of the one, of those of the other."""
    one = Outline(good)
    need_words(one, words)
    two = Outline(other, len(one.made))
    need_twin(one, two)
    need_words(two, others)
    return told_forms(one, all_forms(one, words) + step_forms(two, others))


def are_alike(good, other):
    """Whether at all PRICES both are of here, or both are not."""
    one, two = twin_outlines(good, other)
    return corners_apart(one, two, (0, 1)) is None


def never_less(good, other):
    """Whether a GOOD is of here at all PRICES at which the other one is."""
    one, two = twin_outlines(good, other)
    return corners_apart(one, two, (0,)) is None


def _prices_apart(good, other, words):
    """PRICES at which STEP 0 of the GOOD has one of these words, and that of the other one has not, or None."""
    one, two = twin_outlines(good, other)
    corners = corners_apart(one, two, words)
    return None if corners is None else middle_prices(one, corners)


def parting_prices(good, other):
    """PRICES at which just one of both is of here, or None."""
    return _prices_apart(good, other, (0, 1))


def beyond_prices(good, other):
    """PRICES at which the GOOD is of here, and the other one is not, or None."""
    return _prices_apart(good, other, (1,))


def _rows_apart(one, two):
    """The list of all WORDS of both of which the first ones are unlike, ascending, with the FORMS and bits of zeros."""
    bounds = bound_forms(one)
    ends = [(others, step_forms(two, others), zero_bits(two, others)) for others in every_words(two)]
    rows = []
    for words in every_words(one):
        forms = bounds + step_forms(one, words)
        zeros = zero_bits(one, words)
        for others, more, more_zeros in ends:
            if words[0] != others[0]:
                rows.append((words, others, forms + more, zeros | more_zeros))
    return rows


def beside_paper(good, other):
    """A paper on whether two GOODS are ALIKE: that no WORDS that part them come, or PRICES that part them."""
    one, two = twin_outlines(good, other)
    apart = corners_apart(one, two, (0, 1))
    if apart is not None:
        return "parts", middle_prices(one, apart)
    outer = outer_corners(one)
    moving = len(one.moving)
    rows = []
    for words, others, forms, zeros in _rows_apart(one, two):
        rows.append((words, others, barring_weights(forms, moving, zeros, outer)))
    return "alike", tuple(rows)


def _is_row(row, words, others, forms, zeros):
    """Whether any value is a triple of these WORDS of both and of WEIGHTS that bar them."""
    if not is_row_of(row, 3) or not are_words(row[0], len(words)) or not are_words(row[1], len(others)):
        return False
    return row[0] == words and row[1] == others and are_barring(forms, zeros, row[2])


def _are_rows(one, two, rows):
    """Whether a tuple has all WORDS of both of which the first ones are unlike, ascending, barred by their WEIGHTS."""
    expected = _rows_apart(one, two)
    if len(rows) != len(expected):
        return False
    return all([_is_row(row, *told) for row, told in zip(rows, expected)])


def _do_part(good, other, prices):
    """Whether a tuple is PRICES that part two GOODS."""
    try:
        return is_of_here(good, prices) != is_of_here(other, prices)
    except BadPrices:
        return False


def check_beside(good, other, paper):
    """The word of a paper on whether two GOODS are ALIKE."""
    one, two = twin_outlines(good, other)
    if not is_row_of(paper, 2) or not is_one_of(paper[0], ("alike", "parts")) or not isinstance(paper[1], tuple):
        raise BadPaper("form")
    word, told = paper
    if word == "alike" and not _are_rows(one, two, told):
        raise BadPaper("alike")
    if word == "parts" and not _do_part(good, other, told):
        raise BadPaper("parts")
    return word
