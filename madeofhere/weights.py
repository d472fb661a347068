"""WEIGHTS that bar WORDS, of one GOOD or of two beside one another: of FORMS, sums as in outlines.py.

The first of the FORMS are two for each THING that moves, those of the bounds; zeros are the bits of the FORMS of the
STEPS with the word 0.
"""

from itertools import combinations
from math import gcd

from madeofhere.kinds import is_row_of, is_whole
from madeofhere.outlines import UNITS, ZERO, mixed
from madeofhere.sheets import cut, tied


def _volume(one, other, last):
    """The determinant of three sums without their rests."""
    a, b, c, _ = one
    d, e, f, _ = other
    g, h, i, _ = last
    return a * (e * i - f * h) - b * (d * i - f * g) + c * (d * h - e * g)


def _times_to_cancel(form, others):
    """How many times a form, and how many times three others, have no price together: all from 0 on, the first above 0.

    None if there are no such integers.
    """
    one, other, last = others
    many = _volume(one, other, last)
    times = (-_volume(form, other, last), -_volume(one, form, last), -_volume(one, other, form))
    if many < 0:
        many = -many
        times = (-times[0], -times[1], -times[2])
    if many == 0 or min(times) < 0:
        return None
    return (many, *times)


def _in_least_terms(weights):
    shared = 0
    for weight in weights:
        shared = gcd(shared, weight)
    return tuple([weight // shared for weight in weights])


def _weights_against(rows, moving, chosen, corners):
    """WEIGHTS by which the chosen one of the FORMS has no price any more together with others that hold it back.

    Where a form is greatest between corners, it is held back by some of the forms that are 0 there, as many as there
    are prices that move; the sum then is what the chosen one comes to there.
    """
    for _, bits in corners:
        tight = [number for number in range(len(rows)) if (bits >> number) & 1 == 1 and number != chosen]
        for picked in combinations(tight, int(moving)):
            # The prices that are not there need nothing to hold them back: so the units of them stand for it.
            times = _times_to_cancel(rows[chosen], [rows[number] for number in picked] + list(UNITS[moving:]))
            if times is not None:
                weights = [0] * len(rows)
                weights[chosen] = times[0]
                for number, some in zip(picked, times[1:]):
                    weights[number] = some
                return _in_least_terms(weights)
    return None


def barring_weights(rows, moving, zeros, corners):
    """WEIGHTS of FORMS that bar their WORDS, or None; so many prices move, and the corners are those of all PRICES."""
    # The FORMS of the STEPS cut in turn, until one leaves nothing, or leaves one that would be above 0 only 0.
    for number in range(2 * moving, len(rows)):
        left = cut(corners, rows[number], 1 << number)
        if len(left) == 0:
            return _weights_against(rows, moving, number, corners)
        stuck = tied(left, zeros)
        if stuck != 0:
            return _weights_against(rows, moving, stuck.bit_length() - 1, left)
        corners = left
    return None


def are_barring(rows, zeros, thing):
    """Whether any value is WEIGHTS of FORMS that bar their WORDS."""
    if not is_row_of(thing, len(rows)):
        return False
    total = ZERO
    lifted = 0
    for number, weight in enumerate(thing):
        if not is_whole(weight) or weight < 0:
            return False
        total = mixed(rows[number], weight, total, 1)
        if weight > 0:
            lifted = lifted | (1 << number)
    return total[:3] == (0, 0, 0) and (total[3] < 0 or (total[3] == 0 and (lifted & zeros) != 0))
