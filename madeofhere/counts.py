"""What a GOOD costs at told PRICES, what of that counts as spent here, and whether it is of here."""

from madeofhere.goods import LAND, MAKING, RULE, look_over
from madeofhere.money import common_unit, fractions_of, in_units, lowest_terms, need_prices


def sums_of(found, wholes, amounts):
    """The lists of the COST, the OWN and what COUNTS of each THING, and of the WORDS, at whole amounts as prices."""
    spent = list(amounts)
    own = [amount if thing[LAND] == "here" else 0 for amount, thing in zip(amounts, found)]
    counting = list(own)
    words = []
    # PARTS have greater numbers than what is made of them, so from the end all that comes of PARTS is added by then.
    for number in reversed(range(len(found))):
        thing = found[number]
        part = own[number]
        if thing[MAKING] == "made":
            share, up, down = thing[RULE]
            if 100 * part >= share * spent[number]:
                words.append(1)
                part = spent[number] if up == "whole" else part
            else:
                words.append(0)
                part = part if down == "own" else 0
            counting[number] = part
        if number > 0:
            whole = wholes[number]
            spent[whole] += spent[number]
            own[whole] += part
    words.reverse()
    return spent, own, counting, words


def _sums_at(good, prices):
    """The sums at PRICES in one unit, so that only integers are added and compared; behind them that unit."""
    found, wholes, _, _ = look_over(good)
    need_prices(found, prices)
    unit = common_unit(prices)
    spent, own, counting, words = sums_of(found, wholes, in_units(prices, unit))
    return spent, own, counting, words, unit


def costs(good, prices):
    """The tuple of the COST of each THING by its number."""
    spent, _, _, _, unit = _sums_at(good, prices)
    return fractions_of(spent, unit)


def owns(good, prices):
    """The tuple of the OWN of each THING by its number."""
    _, own, _, _, unit = _sums_at(good, prices)
    return fractions_of(own, unit)


def counted(good, prices):
    """The tuple of what COUNTS of each THING by its number."""
    _, _, counting, _, unit = _sums_at(good, prices)
    return fractions_of(counting, unit)


def words_at(good, prices):
    """The WORDS of a GOOD: 1 for each STEP that is of here, 0 for each other one."""
    _, _, _, words, _ = _sums_at(good, prices)
    return tuple(words)


def is_of_here(good, prices):
    """Whether a GOOD is of here."""
    _, _, _, words, _ = _sums_at(good, prices)
    return words[0] == 1


def portion(good, prices):
    """The PORTION of a GOOD: its OWN divided by its COST."""
    spent, own, _, _, _ = _sums_at(good, prices)
    return lowest_terms(own[0], spent[0])
