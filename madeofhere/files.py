"""A live file: a GOOD and its PRICES now, the deeds that made them so, and the way back."""

from madeofhere.building import put, with_thing
from madeofhere.counts import portion, words_at
from madeofhere.errors import BadFraction, BadGood, BadNumber, Nothing
from madeofhere.goods import HIGH, LOW, RULE, is_rule, look_over, lows, need_number, things
from madeofhere.kinds import are_words, is_whole
from madeofhere.money import is_fraction


class File:
    """A GOOD and its PRICES now, at first all LOW, and the deeds that can be taken back."""

    def __init__(self, good):
        prices = lows(good)
        words = words_at(good, prices)
        self._first = good
        self._deeds = []
        # How it stood at first and behind each deed: the GOOD, the PRICES, the WORDS, and all WORDS up to then.
        self._states = [(good, prices, words, (words,))]

    @property
    def good(self):
        """The GOOD now."""
        return self._states[-1][0]

    @property
    def prices(self):
        """The PRICES now."""
        return self._states[-1][1]

    def _do(self, deed, good, prices):
        words = words_at(good, prices)
        had = self._states[-1][3]
        self._deeds.append(deed)
        self._states.append((good, prices, words, had if words in had else (*had, words)))

    def price(self, number, fraction):
        """The price of a THING becomes another one."""
        found = things(self.good)
        need_number(number, len(found))
        if not is_fraction(fraction, found[number][LOW], found[number][HIGH]):
            raise BadFraction(fraction)
        self._do(("price", number, fraction), self.good, put(self.prices, number, fraction))

    def rule(self, step, fresh):
        """The RULE of a STEP, by its number among the STEPS, becomes another one."""
        found, wholes, made, _ = look_over(self.good)
        need_number(step, len(made))
        if not is_rule(fresh):
            raise BadGood(made[step], "rule")
        number = made[step]
        good = with_thing(found, wholes, number, put(found[number], RULE, fresh))
        self._do(("rule", step, fresh), good, self.prices)

    def __call__(self):
        """Whether the GOOD is of here now."""
        return self._states[-1][2][0] == 1

    def words(self):
        """The WORDS now."""
        return self._states[-1][2]

    def portion(self):
        """The PORTION now."""
        return portion(self.good, self.prices)

    def __len__(self):
        return len(self._deeds)

    def back(self, *, many=1):
        """Take back the last deeds, as if they had not been done."""
        if not is_whole(many) or many < 1:
            raise BadNumber(many)
        if many > len(self._deeds):
            raise Nothing(many)
        del self._deeds[-many:]
        del self._states[-many:]

    def copy(self):
        """A File that stands likewise, and goes on by itself."""
        other = File(self._first)
        other._deeds = list(self._deeds)
        other._states = list(self._states)
        return other

    def trial(self):
        """An object for one with statement: behind its block the file is as it was when the block began."""
        return Trial(self)

    def __eq__(self, other):
        return isinstance(other, File) and self._first == other._first and self._deeds == other._deeds

    def __contains__(self, value):
        had = self._states[-1][3]
        return are_words(value, len(had[0])) and value in had


class Trial:
    """Keeps how a file stood when the block of its with statement began, and puts it back behind the block."""

    def __init__(self, one):
        self._one = one
        self._kept_deeds = []
        self._kept_states = []

    def __enter__(self):
        self._kept_deeds = list(self._one._deeds)
        self._kept_states = list(self._one._states)
        return self._one

    def __exit__(self, kind, value, trace):
        self._one._deeds = self._kept_deeds
        self._one._states = self._kept_states


def under(manager, deed):
    """What a deed returns, called with what the manager of a with statement gives, in its block."""
    with manager as one:
        return deed(one)
