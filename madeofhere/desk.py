"""A desk: a live file that is asked, and changed, by lines of words."""

from madeofhere.errors import BadText, MakeError
from madeofhere.files import File
from madeofhere.portions import most_ever, most_sure
from madeofhere.sures import is_never, is_sure
from madeofhere.texts import are_integers, fraction_text, good_text, is_told_rule, prices_text, read_good, told_fraction

NO = "no"


def _land(one):
    return "here" if one() else "away"


def _do_price(one, told):
    """Do what is told behind the word price."""
    if len(told) != 2 or not are_integers(told[:1]):
        return NO
    fraction = told_fraction(told[1])
    if fraction is None:
        return NO
    one.price(int(told[0]), fraction)
    return _land(one)


def _do_rule(one, told):
    """Do what is told behind the word rule."""
    if not are_integers(told[:1]) or not is_told_rule(told[1:]):
        return NO
    step, share, up, down = told
    one.rule(int(step), (int(share), up, down))
    return _land(one)


def _words(one):
    return " ".join([str(word) for word in one.words()])


def _portion(one):
    return fraction_text(one.portion())


def _sure(one):
    if is_sure(one.good):
        return "surely"
    return "never" if is_never(one.good) else "either"


def _most(one):
    return f"{most_sure(one.good)} {most_ever(one.good)}"


def _text(one):
    return good_text(one.good).replace("\n", " / ")


def _prices(one):
    return prices_text(one.good, one.prices)


def _undo(one):
    if len(one) == 0:
        return "nothing"
    one.back()
    return "done"


# What is asked by one word alone, and what is done by a word with others behind it.
ASKED = {
    "words": _words, "portion": _portion, "sure": _sure, "most": _most, "text": _text, "prices": _prices,
    "undo": _undo,
}
DONE = {"price": _do_price, "rule": _do_rule}


def _answer(one, line):
    """The answer of a file to a line; what the file refuses is raised."""
    word, *told = line.split(" ")
    if word in ASKED and len(told) == 0:
        ask = ASKED[word]
        return ask(one)
    if word in DONE:
        do = DONE[word]
        return do(one, told)
    return NO


class Desk:
    """A desk with a file of the GOOD of a text."""

    def __init__(self, text):
        self._file = File(read_good(text))

    def say(self, line):
        """The answer to a line."""
        if not isinstance(line, str):
            raise BadText(0)
        try:
            return _answer(self._file, line)
        except MakeError:
            return NO

    @property
    def file(self):
        """The very file that the desk has."""
        return self._file
