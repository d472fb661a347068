"""Whether a GOOD is surely of here, or never, and the papers that show it."""

from madeofhere.counts import is_of_here
from madeofhere.errors import BadPaper, BadPrices
from madeofhere.kinds import are_words, is_one_of, is_row_of
from madeofhere.outlines import Outline, all_forms, every_words, need_words, zero_bits
from madeofhere.sheets import coming_sheets, middle_prices, outer_corners
from madeofhere.weights import are_barring, barring_weights


def is_sure(good):
    """Whether a GOOD is of here at all PRICES."""
    return all([sheet.told[0] == 1 for sheet in coming_sheets(Outline(good), 0)])


def is_never(good):
    """Whether a GOOD is of here at no PRICES."""
    return all([sheet.told[0] == 0 for sheet in coming_sheets(Outline(good), 0)])


def _weights_of(outline, words):
    """WEIGHTS that bar WORDS, or None."""
    rows = all_forms(outline, words)
    return barring_weights(rows, len(outline.moving), zero_bits(outline, words), outer_corners(outline))


def weights_for(good, words):
    """WEIGHTS that bar WORDS, or None."""
    outline = Outline(good)
    return _weights_of(outline, need_words(outline, words))


def do_bar(good, words, thing):
    """Whether any value is WEIGHTS that bar WORDS."""
    outline = Outline(good)
    need_words(outline, words)
    return are_barring(all_forms(outline, words), zero_bits(outline, words), thing)


def _words_without_here(outline):
    """The ascending list of all WORDS of which the first one is 0."""
    return [words for words in every_words(outline) if words[0] == 0]


def sure_paper(good):
    """A paper on whether a GOOD is surely of here: that nothing else comes, or PRICES at which it is not."""
    outline = Outline(good)
    for sheet in coming_sheets(outline, 0):
        if sheet.told[0] == 0:
            return "fails", middle_prices(outline, sheet.corners)
    return "surely", tuple([(words, _weights_of(outline, words)) for words in _words_without_here(outline)])


def _are_rows(outline, rows):
    """Whether a tuple has all WORDS of which the first one is 0, ascending, each with WEIGHTS that bar them."""
    expected = _words_without_here(outline)
    if len(rows) != len(expected):
        return False
    for row, words in zip(rows, expected):
        if not is_row_of(row, 2) or not are_words(row[0], len(words)) or row[0] != words:
            return False
        if not are_barring(all_forms(outline, words), zero_bits(outline, words), row[1]):
            return False
    return True


def _do_fail(good, prices):
    """Whether a tuple is PRICES at which a GOOD is not of here."""
    try:
        return not is_of_here(good, prices)
    except BadPrices:
        return False


def check_sure(good, paper):
    """The word of a paper on whether a GOOD is surely of here."""
    outline = Outline(good)
    if not is_row_of(paper, 2) or not is_one_of(paper[0], ("surely", "fails")) or not isinstance(paper[1], tuple):
        raise BadPaper("form")
    word, told = paper
    if word == "surely" and not _are_rows(outline, told):
        raise BadPaper("surely")
    if word == "fails" and not _do_fail(good, told):
        raise BadPaper("fails")
    return word
