"""Two GOODS beside one another: both their FORMS, where they part, and the papers."""

import random
import unittest
from fractions import Fraction

from madeofhere.beside import (
    are_alike, beside_paper, beyond_prices, both_forms, check_beside, never_less, parting_prices,
)
from madeofhere.counts import is_of_here, words_at
from madeofhere.errors import BadGood, BadPaper
from madeofhere.files import File
from madeofhere.goods import highs, lows, moves
from madeofhere.pieces import forms
from madeofhere.sures import is_never, is_sure
from tests.cells import points_of, slow_apart, words_at_point
from tests.drawing import drawn_goods, drawn_pairs, drawn_prices, drawn_twin, goods_at_the_bounds, rebuilt_twin
from tests.samples import CART, GIFT, LAMP, ODD, TRUCK, Agreeing, Raising, chain, made, raw, wide
from tests.slow import all_things, all_words, form_value, mean, prices_of_point, slow_forms, with_share

GOODS = [LAMP, TRUCK, CART, GIFT, made([raw(1, 1)]), wide(10), chain(4, raw(1, 2))]
TWO = [(steps, moving) for steps in (1, 2, 3, 4) for moving in (0, 1, 2)]
# Pairs of which at most two THINGS move, pairs of which three do, and pairs at the bounds.
PAIRS = drawn_pairs(101, 16, 6, 7, TWO) + drawn_pairs(102, 8, 12, 10, TWO)
THREE = drawn_pairs(103, 6, 6, 6, [(1, 3), (2, 3)])
WIDE = drawn_pairs(104, 4, 6, 9, [(3, 3), (4, 3)]) + drawn_pairs(105, 2, 10 ** 6, 10)


def bound_pairs():
    chance = random.Random(106)
    goods = goods_at_the_bounds(107, 2)
    pairs = [(good, drawn_twin(chance, good, 0.2)) for good in goods]
    return pairs + [(good, rebuilt_twin(chance, good)) for good in goods]


# A GOOD of which 50 of 100 are just of here at the greatest price of its work alone.
JUST = made([raw(2, 2, "away")], 0, 2, rule=(50, "own", "own"))
# The same with a part that moves: at one corner of all PRICES alone.
CORNER = made([raw(2, 5, "away")], 0, 2, rule=(50, "own", "own"))
# All of it is asked to be of here: so on the line alone on which the part from away costs nothing.
SIDE = made([raw(0, 2, "away"), raw(1, 3)], 1, 1, rule=(100, "own", "own"))
SIDE_AWAY = made([raw(0, 2, "away"), raw(1, 3)], 1, 1, "away", (100, "own", "own"))
# The RULE of the part never matters: it is of here by any SHARE, and counts whole or by its own alike.
INNER = made([made([raw(1, 3)], 2, 2), raw(4, 4, "away")], 0, 1, rule=(40, "own", "none"))
INNER_OWN = made([made([raw(1, 3)], 2, 2, rule=(100, "own", "own")), raw(4, 4, "away")], 0, 1, rule=(40, "own", "none"))
SLANTED = made([raw(0, 4, "away"), raw(1, 5)], 0, 0, rule=(50, "own", "own"))
FIXED = [
    # GOODS, whether the one is of here somewhere where the other one is not, and the other way round.
    (JUST, with_share(JUST, 51), True, False),
    (with_share(JUST, 51), JUST, False, True),
    (CORNER, with_share(CORNER, 51), True, False),
    (SIDE, SIDE_AWAY, True, False),
    (SIDE_AWAY, SIDE, False, True),
    (INNER, INNER_OWN, False, False),
    (LAMP, with_share(LAMP, 33), False, True),
    (LAMP, with_share(LAMP, 67), True, False),
    (with_share(LAMP, 33), with_share(LAMP, 20), False, False),
    (with_share(LAMP, 67), with_share(LAMP, 99), False, False),
    (SLANTED, with_share(SLANTED, 51), True, False),
    (made([raw(1, 3), raw(2, 2, "away")]), made([raw(1, 3, "away"), raw(2, 2)]), True, True),
] + [(good, good, False, False) for good in GOODS + [JUST, CORNER, SIDE, SIDE_AWAY, INNER]]


class BothFormsTest(unittest.TestCase):
    def test_by_hand(self):
        low_high = ((1, 0, -10), (-1, 0, 30), (0, 1, 0), (0, -1, 10))
        other = made([raw(20, 20), raw(0, 10, "away")], 10, 30, "away", (25, "own", "none"))
        # 25 of all from 20 of here: 25 a + 25 b - 1500 with the word 0.
        self.assertEqual(both_forms(LAMP, (1,), other, (0,)), low_high + ((50, 50, -1000), (25, 25, -1500)))
        self.assertEqual(both_forms(other, (1,), LAMP, (1,)), low_high + ((-25, -25, 1500), (50, 50, -1000)))

    def test_against_forms_of_each(self):
        for good, other in PAIRS[::2] + THREE + WIDE[::3] + bound_pairs()[::3]:
            many = 2 * len(moves(good))
            for words in all_words(good):
                for others in all_words(other):
                    expected = forms(good, words) + forms(other, others)[many:]
                    self.assertEqual(both_forms(good, words, other, others), expected)
                    self.assertEqual(forms(other, others)[:many], expected[:many])

    def test_against_slow_forms(self):
        for good, other in PAIRS[::7] + THREE[::5]:
            for words, others in zip(all_words(good), all_words(other)[::-1]):
                expected = slow_forms(good, words) + slow_forms(other, others)[2 * len(moves(good)):]
                self.assertEqual(both_forms(good, words, other, others), expected)


class ApartTest(unittest.TestCase):
    def check(self, good, other, beyond, less):
        """Check all that is told of two GOODS, of which the one or the other one is of here alone at some PRICES."""
        apart = beyond or less
        self.assertIs(are_alike(good, other), not apart)
        self.assertIs(never_less(good, other), not less)
        prices = parting_prices(good, other)
        self.assertEqual(prices is not None, apart)
        if apart:
            self.assertNotEqual(is_of_here(good, prices), is_of_here(other, prices))
        prices = beyond_prices(good, other)
        self.assertEqual(prices is not None, beyond)
        if beyond:
            self.assertEqual((is_of_here(good, prices), is_of_here(other, prices)), (True, False))
        word, told = beside_paper(good, other)
        self.assertEqual(word, "parts" if apart else "alike")
        self.assertEqual(check_beside(good, other, (word, told)), word)
        if apart:
            self.assertNotEqual(is_of_here(good, told), is_of_here(other, told))
        return apart

    def test_by_hand(self):
        for good, other, beyond, less in FIXED:
            self.check(good, other, beyond, less)

    def test_at_a_single_price_or_on_a_line_alone(self):
        self.assertEqual(parting_prices(JUST, with_share(JUST, 51)), ((2, 1), (2, 1)))
        self.assertEqual(beyond_prices(CORNER, with_share(CORNER, 51)), ((2, 1), (2, 1)))
        self.assertEqual(parting_prices(SIDE, SIDE_AWAY)[1], (0, 1))
        # Those of the word 1 on the very border of both, where a FORM of the one and one of the other are 0.
        there = made([raw(1, 3), raw(2, 2, "away")], 0, 0, rule=(50, "own", "own"))
        other = made([raw(1, 3, "away"), raw(2, 2)], 0, 0, rule=(50, "own", "own"))
        both = [words_at_point(there, (Fraction(2),)), words_at_point(other, (Fraction(2),))]
        self.assertEqual(both, [(1,), (1,)])
        self.check(there, other, True, True)

    def test_against_all_cells(self):
        told = {}
        for good, other in PAIRS + FIXED_PAIRS:
            points = points_of(good, other)
            words = {(words_at_point(good, point)[0], words_at_point(other, point)[0]) for point in points}
            apart = self.check(good, other, (1, 0) in words, (0, 1) in words)
            told[apart] = told.get(apart, 0) + 1
        self.assertGreater(min(told.values()), 40)

    def test_three_that_move_against_all_choices_of_forms(self):
        told = {}
        for good, other in THREE:
            apart = self.check(good, other, slow_apart(good, other, 1) is not None,
                               slow_apart(good, other, 0) is not None)
            told[apart] = told.get(apart, 0) + 1
        self.assertGreater(min(told.values()), 2)

    def test_three_that_move_at_drawn_prices(self):
        chance = random.Random(108)
        for good, other in THREE + WIDE + bound_pairs():
            bounds = [thing[2:4] for thing in all_things(good)]
            drawn = [lows(good), highs(good)] + [drawn_prices(chance, bounds) for _ in range(20)]
            words = {(is_of_here(good, prices), is_of_here(other, prices)) for prices in drawn}
            beyond, less = beyond_prices(good, other) is not None, not never_less(good, other)
            self.assertTrue(beyond or (True, False) not in words)
            self.assertTrue(less or (False, True) not in words)
            self.check(good, other, beyond, less)

    def test_they_go_with_one_another(self):
        for good, other in PAIRS + THREE + WIDE + FIXED_PAIRS:
            self.assertIs(are_alike(good, other), are_alike(other, good))
            self.assertIs(are_alike(good, other), never_less(good, other) and never_less(other, good))
            self.assertIs(never_less(good, other), beyond_prices(other, good) is None)
            self.assertIs(are_alike(good, other), parting_prices(other, good) is None)
            self.assertIs(are_alike(good, good), True)
            self.assertIs(never_less(good, good), True)
            # Beside one that is always of here, or never.
            self.assertIs(never_less(good, with_share(other, 0)), is_sure(good))
            self.assertIs(never_less(with_share(other, 0), good), True)
            if is_never(other):
                self.assertIs(are_alike(good, other), is_never(good))
                self.assertIs(never_less(good, other), True)

    def test_a_share_of_step_0_that_is_less_is_never_less(self):
        for good, _ in PAIRS[::2] + WIDE:
            for share in (0, 20, 50, 80, 100):
                other = with_share(good, share)
                self.assertIs(never_less(good, other) or never_less(other, good), True)
                self.assertIs(never_less(good, other) if share >= good[4][0] else never_less(other, good), True)


FIXED_PAIRS = [(good, other) for good, other, _, _ in FIXED]


def all_pairs_of_words(good, other):
    return [(words, others) for words in all_words(good) for others in all_words(other) if words[0] != others[0]]


def slow_bar(good, words, other, others, weights):
    """Whether WEIGHTS bar WORDS of both, by the words of the document."""
    many = 2 * len(moves(good))
    mine = slow_forms(good, words)
    rows = mine + slow_forms(other, others)[many:]
    if len(weights) != len(rows) or any(type(weight) is not int or weight < 0 for weight in weights):
        return False
    total = [sum(weight * row[k] for weight, row in zip(weights, rows)) for k in range(len(rows[0]))]
    lifted = [weight for weight, word in zip(weights[many:], words + others) if word == 0 and weight]
    return not any(total[:-1]) and (total[-1] < 0 or (total[-1] == 0 and bool(lifted)))


class PaperTest(unittest.TestCase):
    def alike_pairs(self):
        return [pair for pair in PAIRS + THREE + FIXED_PAIRS if are_alike(*pair)]

    def test_all_words_of_which_the_first_ones_are_unlike_ascending(self):
        zero = [0, 0]
        for good, other in self.alike_pairs() + [(good, good) for good in goods_at_the_bounds(109, 1)]:
            word, rows = beside_paper(good, other)
            self.assertEqual((word, type(rows)), ("alike", tuple))
            self.assertEqual([row[:2] for row in rows], all_pairs_of_words(good, other))
            self.assertEqual(list(rows), sorted(rows))
            for words, others, weights in rows:
                self.assertTrue(slow_bar(good, words, other, others, weights))
                self.assertEqual(len(weights), len(both_forms(good, words, other, others)))
                total = [sum(weight * row[-1] for weight, row in zip(weights, both_forms(good, words, other, others)))]
                mine = weights[2 * len(moves(good)):][:len(words)]
                if total == [0]:
                    zero[0] += any(weight and not one for weight, one in zip(mine, words))
                    zero[1] += not any(weight and not one for weight, one in zip(mine, words))
        # The sum is 0, and a STEP with the word 0 of the one, or of the other one alone, has a WEIGHT above 0.
        self.assertGreater(min(zero), 5)

    def test_papers_of_ones_own(self):
        good, other = with_share(LAMP, 33), with_share(LAMP, 20)
        _, rows = beside_paper(good, other)
        twice = tuple((words, others, tuple(3 * weight for weight in weights)) for words, others, weights in rows)
        self.assertEqual(check_beside(good, other, ("alike", twice)), "alike")
        self.assertEqual(check_beside(LAMP, good, ("parts", lows(LAMP))), "parts")
        self.assertEqual(check_beside(LAMP, good, ("parts", ((39, 2), (20, 1), (0, 1)))), "parts")

    def test_prices_in_the_middle_of_the_cells(self):
        for good, other in [pair for pair in PAIRS[::3] if not are_alike(*pair)]:
            for point in points_of(good, other)[::7]:
                prices = prices_of_point(good, mean([point, point]))
                if words_at_point(good, point)[0] != words_at_point(other, point)[0]:
                    self.assertEqual(check_beside(good, other, ("parts", prices)), "parts")
                else:
                    with self.assertRaises(BadPaper):
                        check_beside(good, other, ("parts", prices))


class RefusedPaperTest(unittest.TestCase):
    def refuse(self, good, other, paper, part):
        with self.assertRaises(BadPaper) as caught:
            check_beside(good, other, paper)
        self.assertEqual(caught.exception.part, part)

    def test_form(self):
        for good, other in ((LAMP, with_share(LAMP, 33)), (INNER, INNER_OWN), (SIDE, SIDE)):
            word, told = beside_paper(good, other)
            wrong = "parts" if word == "alike" else "alike"
            for paper in list(ODD) + [
                [word, told], (word,), (word, told, ()), (word, list(told)), (told, word), ("Alike", told), ("", told),
                (None, told), (word.encode(), told), (True, told), (Agreeing(), told), (Raising(), told), (word, None),
                (wrong, {}), (wrong, "alike"), (word, Raising()), (word, Agreeing()), (word, File(LAMP)),
                ((word,), told),
                ("surely", told), ("fails", told), (word + " ", told), {word: told}, word, File(good), (wrong, []),
            ]:
                self.refuse(good, other, paper, "form")

    def test_alike_of_what_parts(self):
        for good, other in ((LAMP, with_share(LAMP, 33)), (SIDE, SIDE_AWAY), (JUST, with_share(JUST, 51))):
            rows = tuple((words, others, (1,) * len(both_forms(good, words, other, others)))
                         for words, others in all_pairs_of_words(good, other))
            for told in ((), rows, lows(good), (None,), ((0,), (1,), (1,))):
                self.refuse(good, other, ("alike", told), "alike")

    def alike_pairs(self):
        return [(INNER, INNER_OWN), (SIDE, SIDE), (with_share(LAMP, 33), with_share(LAMP, 20)), (GIFT, GIFT),
                (made([raw(1, 1)]), made([raw(1, 1)], land="away"))]

    def test_rows_left_out_doubled_or_put_elsewhere(self):
        for good, other in self.alike_pairs():
            _, rows = beside_paper(good, other)
            last = len(rows) - 1
            bad = [rows[:at] + rows[at + 1:] for at in range(len(rows))]
            bad += [rows[:at] + (rows[at],) + rows[at:] for at in range(len(rows))]
            bad += [rows[:at] + rows[at + 1:] + (rows[at],) for at in range(last)]
            bad += [rows[:at] + (rows[at + 1], rows[at]) + rows[at + 2:] for at in range(last)]
            bad += [rows[::-1], (), (rows,), rows * 2, (None,) * 20000]
            same = [((0,) * len(rows[0][0]), (0,) * len(rows[0][1]), rows[0][2])]
            bad += [rows + tuple(same), tuple(same) + rows, rows[:-1] + tuple(same)]
            for told in bad:
                self.refuse(good, other, ("alike", told), "alike")

    def test_other_words_and_other_weights(self):
        for good, other in self.alike_pairs():
            _, rows = beside_paper(good, other)
            for at, (words, others, weights) in enumerate(rows):
                bad = [(row[0], row[1], weights) for row in rows if row is not rows[at]]
                bad += [(others, words, weights)] * (words != others)
                bad += [(words, others, row[2]) for row in rows if not slow_bar(good, words, other, others, row[2])]
                bad += [(words, others, tuple(weight + 1 for weight in weights))]
                for row in bad:
                    if not (row[:2] == (words, others) and slow_bar(good, words, other, others, row[2])):
                        self.refuse(good, other, ("alike", rows[:at] + (row,) + rows[at + 1:]), "alike")

    def test_rows_with_other_things_in_them(self):
        odd = [None, True, [], (), "x", Agreeing(), Raising(), (None,) * 3, (Raising(),) * 3, File(LAMP),
               (Agreeing(),) * 3]
        for good, other in self.alike_pairs():
            _, rows = beside_paper(good, other)
            for at, (words, others, weights) in enumerate(rows):
                bad = odd + [(words, others, value) for value in odd] + [(words, value, weights) for value in odd]
                bad += [(value, others, weights) for value in odd] + [
                    [words, others, weights], (list(words), others, weights), (words, list(others), weights),
                    (words, others, list(weights)), (words, others, weights, ()), (words, others), (words, weights),
                    (words, others, weights[:-1]), (words, others, weights + (0,)),
                    (words, others, (0,) * len(weights)),
                    (words[:-1] + (bool(words[-1]),), others, weights),
                    (words, others[:-1] + (bool(others[-1]),), weights),
                    (words + (0,), others, weights), (words, others + (0,), weights), (words + others, weights, ()),
                ]
                for k, weight in enumerate(weights):
                    for value in (-1, True, None, "1", [weight], (weight,), Raising(), Agreeing(), -weight or -2):
                        bad.append((words, others, weights[:k] + (value,) + weights[k + 1:]))
                for row in bad:
                    self.refuse(good, other, ("alike", rows[:at] + (row,) + rows[at + 1:]), "alike")

    def test_prices_that_do_not_part_them(self):
        for good, other, prices in (
            (LAMP, with_share(LAMP, 33), highs(LAMP)), (LAMP, with_share(LAMP, 67), lows(LAMP)),
            (JUST, with_share(JUST, 51), lows(JUST)), (JUST, with_share(JUST, 51), ((199, 100), (2, 1))),
            (SIDE, SIDE_AWAY, highs(SIDE)), (INNER, INNER_OWN, lows(INNER)), (LAMP, LAMP, lows(LAMP)),
        ):
            self.refuse(good, other, ("parts", prices), "parts")

    def test_what_are_no_prices(self):
        for good, other in ((LAMP, with_share(LAMP, 33)), (SIDE, SIDE_AWAY), (INNER, INNER_OWN)):
            right = parting_prices(good, other) or lows(good)
            bad = [(), right[:-1], right + ((0, 1),), (right,), ((0, 1),) * len(right), (None,) * len(right)]
            odd = (None, True, (1, 0), (2, 2), [1, 1], (-1, 1), 5, "1/1", Raising(), Agreeing(), (10 ** 7, 1), (1,))
            bad += [right[:at] + (value,) + right[at + 1:] for at in range(len(right)) for value in odd]
            for told in bad:
                self.refuse(good, other, ("parts", told), "parts")


def both_forms_of_any(good, other):
    """The call of both_forms with WORDS of the GOOD, if it is one, and with None for those of the other one."""
    try:
        words = words_at(good, lows(good))
    except BadGood:
        words = None
    return both_forms(good, words, other, None)


class TwinTest(unittest.TestCase):
    CALLS = (
        both_forms_of_any, are_alike, never_less, parting_prices, beyond_prices, beside_paper,
        lambda good, other: check_beside(good, other, None),
    )

    def refuse(self, good, other, number, part="twin"):
        for call in self.CALLS:
            with self.assertRaises(BadGood) as caught:
                call(good, other)
            self.assertEqual((caught.exception.number, caught.exception.part), (number, part))
            self.assertIs(type(caught.exception.number), int)

    def put(self, good, number, low, high):
        """The GOOD with another LOW and HIGH of one THING."""
        left = [number]

        def build(thing):
            if left[0] == 0:
                thing = thing[:2] + (low, high) + thing[4:]
            left[0] -= 1
            return thing[:5] + (tuple(build(part) for part in thing[5]),) if thing[0] == "made" else thing

        return build(good)

    def test_other_bounds(self):
        for good in (LAMP, TRUCK, CART, INNER):
            for number, thing in enumerate(all_things(good)):
                low, high = thing[2:4]
                for bounds in ((low, high + 1), (low - 1, high), (low + 1, max(high, low + 1)), (high + 1, high + 1)):
                    if bounds[0] >= 0 and self.is_good(self.put(good, number, *bounds)):
                        self.refuse(good, self.put(good, number, *bounds), number)
                        self.refuse(self.put(good, number, *bounds), good, number)

    def is_good(self, good):
        return len([thing for thing in all_things(good) if thing[2] < thing[3]]) <= 3

    def test_the_first_of_several(self):
        self.refuse(LAMP, TRUCK, 0)
        self.refuse(LAMP, made([raw(20, 21), raw(1, 10)], 10, 30), 1)
        self.refuse(LAMP, made([raw(20, 20), raw(1, 10), raw(5, 5)], 10, 30), 2)

    def test_what_one_of_them_alone_has(self):
        more = made([raw(20, 20, "away"), raw(0, 10), raw(0, 0)], 10, 30)
        self.refuse(LAMP, more, 3)
        self.refuse(more, LAMP, 3)
        self.refuse(made([raw(1, 1)]), made([raw(1, 1), made([raw(0, 0)])]), 2)

    def test_twins_may_have_other_things_made(self):
        one = made([made([raw(1, 2)], 3, 3), raw(4, 4)], 5, 5)
        for other in (made([raw(3, 3), raw(1, 2), raw(4, 4)], 5, 5), made([raw(3, 3), made([raw(4, 4)], 1, 2)], 5, 5)):
            self.assertIs(are_alike(one, other), True)
            self.assertIs(are_alike(other, one), True)

    def test_no_twin_behind_what_is_no_good(self):
        for value in ODD:
            self.refuse(LAMP, value, 0, "form")
            self.refuse(value, TRUCK, 0, "form")
        self.refuse(LAMP, made([raw(5, 5), raw(2, 1)]), 2, "high")
        self.refuse(LAMP, raw(1, 1), 0, "raw")
        self.refuse(LAMP, made([raw(0, 0)]), 0, "nothing")
        self.refuse(made([raw(0, 0)]), None, 0, "nothing")
        self.refuse(raw(1, 1), made([raw(1, 1)] * 5), 0, "raw")

    def test_twins_of_all_kinds_are_let_by(self):
        for good in drawn_goods(110, 1, 6):
            self.assertIs(are_alike(good, good), True)
