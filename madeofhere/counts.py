"""What a GOOD costs at told PRICES, what of that counts as spent here, and whether it is of here."""

from madeofhere.goods import LAND, RULE, is_made, part_numbers, steps, things
from madeofhere.money import common_unit, in_units, lowest_terms, need_prices

# Where the sums of a THING stand in its tally.
COST = 0
OWN = 1
COUNTS = 2


def _is_here(thing, cost, own):
    """Whether a THING that is made is of here by its COST and its OWN."""
    return 100 * own >= thing[RULE][0] * cost


def _counting(thing, cost, own):
    """What COUNTS of a THING by its COST and its OWN."""
    if not is_made(thing):
        return own
    _, up, down = thing[RULE]
    if _is_here(thing, cost, own):
        return cost if up == "whole" else own
    return own if down == "own" else 0


def _tally(thing, amount, inside):
    """The triple (COST, OWN, what COUNTS) of a THING, by its price and the tallies of its PARTS."""
    cost = amount + sum([row[COST] for row in inside])
    own = sum([row[COUNTS] for row in inside])
    if thing[LAND] == "here":
        own = own + amount
    return cost, own, _counting(thing, cost, own)


def _tallies(found, amounts):
    """The list of the tallies of all THINGS in a GOOD by their numbers, at whole amounts as prices."""
    inside = part_numbers(found)
    rows = [() for _ in found]
    # PARTS have greater numbers than what is made of them, so from the end all tallies of PARTS stand ready.
    for number in reversed(range(len(found))):
        rows[number] = _tally(found[number], amounts[number], [rows[part] for part in inside[number]])
    return rows


def _tallies_at(good, prices):
    """The tallies at PRICES, all in the same unit, so that only integers are added and compared."""
    need_prices(good, prices)
    return _tallies(things(good), in_units(prices, common_unit(prices)))


def _sums(good, prices, which):
    """The tuple of one of the sums of each THING by its number, FRACTIONS."""
    rows = _tallies_at(good, prices)
    unit = common_unit(prices)
    return tuple([lowest_terms(row[which], unit) for row in rows])


def costs(good, prices):
    """The tuple of the COST of each THING by its number."""
    return _sums(good, prices, COST)


def owns(good, prices):
    """The tuple of the OWN of each THING by its number."""
    return _sums(good, prices, OWN)


def counted(good, prices):
    """The tuple of what COUNTS of each THING by its number."""
    return _sums(good, prices, COUNTS)


def words_at(good, prices):
    """The WORDS of a GOOD: 1 for each STEP that is of here, 0 for each other one."""
    rows = _tallies_at(good, prices)
    found = things(good)
    return tuple([1 if _is_here(found[step], rows[step][COST], rows[step][OWN]) else 0 for step in steps(good)])


def is_of_here(good, prices):
    """Whether a GOOD is of here."""
    return words_at(good, prices)[0] == 1


def portion(good, prices):
    """The PORTION of a GOOD: its OWN divided by its COST."""
    first = _tallies_at(good, prices)[0]
    return lowest_terms(first[OWN], first[COST])
