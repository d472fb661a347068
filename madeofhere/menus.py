"""MENUS: GOODS that may be meant, and what tells them from one another."""

from madeofhere.counts import sums_of
from madeofhere.errors import BadGood, BadMenu, BadPrices, BadSeen
from madeofhere.goods import MOST_STEPS, look_over
from madeofhere.kinds import is_row_of, is_within
from madeofhere.money import amounts_of, need_prices
from madeofhere.outlines import Outline
from madeofhere.sheets import middle_prices
from madeofhere.twins import corners_apart, unlike_number

MOST_GOODS = 3
MOST_SEEN = 40


def _looks(thing):
    """The list of what look_over tells of each GOOD of a MENU."""
    if not isinstance(thing, tuple) or not 1 <= len(thing) <= MOST_GOODS:
        raise BadMenu(None)
    looks = []
    for number, good in enumerate(thing):
        try:
            looks.append(look_over(good))
        except BadGood:
            raise BadMenu(number) from None
        if unlike_number(looks[0][0], looks[number][0]) is not None:
            raise BadMenu(number)
    return looks


def need_menu(thing):
    """The very value, if it is a MENU."""
    _looks(thing)
    return thing


def _is_here(look, amounts):
    """Whether a GOOD that was looked over is of here, at whole amounts as prices."""
    found, wholes, _, _ = look
    _, _, _, words = sums_of(found, wholes, amounts)
    return words[0] == 1


def _need_seen(found, seen):
    """Refuse any value that is no tuple of pairs of PRICES and of 1 or 0, or of too many."""
    if not isinstance(seen, tuple) or len(seen) > MOST_SEEN:
        raise BadSeen(None)
    for number, pair in enumerate(seen):
        if not is_row_of(pair, 2) or not is_within(pair[1], 0, 1):
            raise BadSeen(number)
        try:
            need_prices(found, pair[0])
        except BadPrices:
            raise BadSeen(number) from None


def fitting_goods(menu, seen):
    """The ascending tuple of the numbers of the GOODS by which all was so that was seen."""
    looks = _looks(menu)
    _need_seen(looks[0][0], seen)
    fitting = list(range(len(looks)))
    for prices, word in seen:
        amounts = amounts_of(prices)
        fitting = [number for number in fitting if _is_here(looks[number], amounts) == (word == 1)]
    return tuple(fitting)


def here_by(menu, prices):
    """The ascending tuple of the numbers of the GOODS that are of here."""
    looks = _looks(menu)
    amounts = amounts_of(need_prices(looks[0][0], prices))
    return tuple([number for number, look in enumerate(looks) if _is_here(look, amounts)])


def _outlines(menu):
    """The outlines of the GOODS of a MENU, the FORMS of each with numbers of their own."""
    need_menu(menu)
    return [Outline(good, number * MOST_STEPS) for number, good in enumerate(menu)]


def _lots_of(outlines):
    """The list of the LOTS."""
    rows = []
    for number, outline in enumerate(outlines):
        alike = [at for at, lot in enumerate(rows) if corners_apart(outlines[lot[0]], outline, (0, 1)) is None]
        if len(alike) == 0:
            rows.append((number,))
        else:
            rows[alike[0]] = (*rows[alike[0]], number)
    return rows


def lots(menu):
    """The ascending tuple of the LOTS: the numbers of GOODS that are ALIKE are in one."""
    return tuple(_lots_of(_outlines(menu)))


def telling_prices(menu):
    """A tuple of as few PRICES as can be such that some of them part each two GOODS that are not ALIKE."""
    outlines = _outlines(menu)
    firsts = [lot[0] for lot in _lots_of(outlines)]
    if len(firsts) == 1:
        return ()
    one, two = firsts[0], firsts[1]
    prices = middle_prices(outlines[0], corners_apart(outlines[one], outlines[two], (0, 1)))
    if len(firsts) == 2:
        return (prices,)
    # These part the third one from one of the two; so others part it from the one with the same word.
    three = firsts[2]
    here = here_by(menu, prices)
    same = one if (one in here) == (three in here) else two
    return prices, middle_prices(outlines[0], corners_apart(outlines[same], outlines[three], (0, 1)))
