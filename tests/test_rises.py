"""Prices that rise: THINGS that drop a GOOD, lift it, or can do both."""

import random
import unittest
from fractions import Fraction

from madeofhere.counts import is_of_here
from madeofhere.errors import BadGood, BadNumber
from madeofhere.goods import highs, lows, moves
from madeofhere.outlines import Outline
from madeofhere.rises import drop_by, forms_behind, lift_by, moody
from madeofhere.sheets import coming_sheets
from madeofhere.turns import here_turns
from tests.cells import lines_of, slow_rise, words_at_point
from tests.drawing import drawn_goods, drawn_prices, goods_at_the_bounds, lively_goods, lonely_goods
from tests.samples import CART, GIFT, LAMP, ODD, TRUCK, chain, made, ratio, raw, wide
from tests.slow import all_things, form_value, moving, with_share

GOODS = [LAMP, TRUCK, CART, GIFT, made([raw(1, 1)]), wide(10), chain(4, raw(1, 2))] + lonely_goods()
TWO = [(steps, moving) for steps in (1, 2, 3, 4) for moving in (0, 1, 2)]
# 6 from here and a from away count whole up to a = 6, and they have to be 8: so a dearer part lifts the GOOD, and then
# drops it.
MOODY = made([made([raw(6, 6), raw(0, 9, "away")]), raw(8, 8, "away")], 0, 0, "away", (50, "own", "own"))
# At the lowest price alone it is of here, or at the greatest one alone.
FALL = made([raw(0, 4, "away")], 2, 2, rule=(100, "own", "own"))
CLIMB = made([raw(2, 2, "away")], 0, 2, rule=(50, "own", "own"))
# It is of here at one corner of all PRICES alone.
CORNER = made([raw(2, 5, "away")], 0, 2, rule=(50, "own", "own"))


def moody_goods():
    """GOODS built around one like MOODY, of which other THINGS move, too."""
    chance = random.Random(141)
    goods = [MOODY]
    for _ in range(30):
        here, more = chance.randint(1, 8), chance.randint(1, 6)
        inner = made([raw(here, here + chance.choice((0, 2))), raw(0, here + more, "away")], 0, 0, "away",
                     (50, "whole", chance.choice(("own", "none"))))
        rest = raw(here + chance.randint(0, 3), here + 4 + chance.choice((0, 0, 3)), "away")
        goods.append(made([inner, rest][::chance.choice((1, -1))], 0, 0, chance.choice(("here", "away")),
                          (chance.choice((50, 45, 40)), "own", "own")))
    return goods


# Prices of one sheet and of another one above them meet on a border that is of one of them alone.
EDGES = [
    made([made([raw(0, 4, "away")], 3, 4, "here", (50, "own", "own"))], 3, 3, "away", (40, "own", "none")),
    made([made([raw(0, 0, "away"), raw(0, 2, "away")], 0, 1, "here", (33, "own", "none"))], 1, 1, "away",
         (50, "own", "own")),
    made([made([made([raw(0, 1, "away")], 0, 1, "here", (20, "own", "own"))], 0, 0, "here", (20, "own", "none"))], 1, 1,
         "away", (50, "own", "none")),
    made([made([raw(0, 1)], 0, 2, "away", (20, "own", "none"))], 1, 1, "away", (50, "whole", "own")),
    made([made([raw(0, 1), raw(0, 1, "away")], 0, 0, "here", (50, "own", "none"))], 1, 1, "away", (50, "own", "own")),
]
EDGES_OF_THREE = [
    made([made([raw(0, 2, "away")], 0, 1, "here", (20, "own", "own"))], 1, 2, "away", (50, "own", "none")),
    made([made([raw(0, 2, "away")], 1, 2, "here", (50, "own", "none"))], 1, 2, "away", (50, "whole", "none")),
    made([made([raw(0, 1)], 0, 1, "away", (20, "own", "own"))], 1, 2, "away", (50, "own", "none")),
]
LIVELY = lively_goods(142, 10, 6, 7, TWO) + lively_goods(143, 3, 12, 10, TWO)
MOODS = moody_goods()
THREE = lively_goods(144, 5, 5, 6, [(1, 3), (2, 3)])
SMALL = EDGES_OF_THREE + lively_goods(149, 12, 3, 3, [(2, 3)])
WIDE = lively_goods(145, 3, 9, 10, [(3, 3), (4, 3)]) + goods_at_the_bounds(146, 3) + drawn_goods(147, 1, 6)


class RisesTest(unittest.TestCase):
    def check_pair(self, good, number, pair, word):
        one, other = pair
        for at, (price, more) in enumerate(zip(one, other)):
            if at == number:
                self.assertLess(ratio(price), ratio(more))
            else:
                self.assertEqual(price, more)
        self.assertEqual([is_of_here(good, prices) for prices in pair], [word == 1, word == 0])
        self.assertEqual([type(pair), type(one), type(other)], [tuple] * 3)

    def check(self, good, can):
        """Check all that is told of a GOOD, of which can tells whether a THING that moves takes this word from it."""
        both = []
        told = set()
        for number in range(len(all_things(good))):
            found = []
            for function, word in ((drop_by, 1), (lift_by, 0)):
                pair = function(good, number)
                expected = number in moving(good) and can(moving(good).index(number), word)
                self.assertEqual(pair is not None, expected)
                if pair is not None:
                    self.check_pair(good, number, pair, word)
                    found.append(word)
            both += [number] * (len(found) == 2)
            told.update(found)
        self.assertEqual(moody(good), tuple(both))
        return told, both

    def in_cells(self, good):
        """Whether a price takes a word from the GOOD, by lines in all cells."""
        rows = {}

        def can(at, word):
            if at not in rows:
                rows[at] = [[words_at_point(good, point)[0] for point in line] for line in lines_of(good, at)]
            return any(word in line and 1 - word in line[line.index(word):] for line in rows[at])

        return can


class CanTest(RisesTest):
    def test_by_hand(self):
        self.assertEqual(moody(LAMP), ())
        self.assertIsNone(drop_by(LAMP, 0))
        self.check_pair(LAMP, 0, lift_by(LAMP, 0), 0)
        self.check_pair(LAMP, 2, lift_by(LAMP, 2), 0)
        self.assertEqual((lift_by(LAMP, 1), drop_by(LAMP, 1)), (None, None))
        self.check_pair(FALL, 1, drop_by(FALL, 1), 1)
        self.assertEqual(drop_by(FALL, 1)[0], ((2, 1), (0, 1)))
        self.assertIsNone(lift_by(FALL, 1))
        self.assertEqual(lift_by(CLIMB, 0)[1], ((2, 1), (2, 1)))
        self.assertIsNone(drop_by(CLIMB, 0))
        self.assertEqual(moody(MOODY), (3,))
        self.check_pair(MOODY, 3, drop_by(MOODY, 3), 1)
        self.check_pair(MOODY, 3, lift_by(MOODY, 3), 0)

    def test_at_one_corner_alone(self):
        self.assertEqual(lift_by(CORNER, 0)[1], ((2, 1), (2, 1)))
        self.assertEqual(drop_by(CORNER, 1)[0], ((2, 1), (2, 1)))
        self.assertIsNone(drop_by(CORNER, 0))
        self.assertIsNone(lift_by(CORNER, 1))
        self.assertEqual((drop_by(with_share(CORNER, 51), 1), lift_by(with_share(CORNER, 51), 0)), (None, None))

    def test_against_lines_in_all_cells(self):
        many = {}
        for good in GOODS + [MOODY, FALL, CLIMB, CORNER] + EDGES + LIVELY + MOODS:
            if len(moves(good)) < 3:
                told, both = self.check(good, self.in_cells(good))
                for kind in [*told] + ["both"] * bool(both):
                    many[kind] = many.get(kind, 0) + 1
        self.assertGreater(min(many[0], many[1], many["both"]), 10)

    def test_three_that_move_against_all_choices_of_forms(self):
        told = {}
        for good in THREE + SMALL:
            words, both = self.check(good, lambda at, word: slow_rise(good, at, word) is not None)
            for kind in words:
                told[kind] = told.get(kind, 0) + 1
        self.assertGreater(min(told.values()), 3)

    def test_one_step_of_which_three_move_against_lines_in_all_cells(self):
        for good in [good for good in THREE if len([1 for thing in all_things(good) if thing[0] == "made"]) == 1]:
            self.check(good, self.in_cells(good))

    def test_the_price_of_a_border_that_leads_back(self):
        # What the slow reckoning tells of moody GOODS of which three THINGS move.
        found = 0
        for good in [good for good in MOODS if len(moves(good)) == 3][:4]:
            _, both = self.check(good, lambda at, word: slow_rise(good, at, word) is not None)
            found += bool(both)
        self.assertGreater(found, 0)

    def test_what_the_price_can_rise_to_from_each_sheet(self):
        # At each point of each line: just what has some of the sheet below it is behind it. Every other point stands in
        # the middle of many with the same words, some of which are below it.
        border = 0
        for good in EDGES + LIVELY[::3] + [good for good in MOODS if len(moves(good)) < 3][:6] + EDGES_OF_THREE:
            outline = Outline(good)
            for sheet in coming_sheets(outline, 0):
                for at in range(len(moves(good))):
                    rows = forms_behind(outline, sheet, at)
                    for line in lines_of(good, at):
                        below = False
                        for k, point in enumerate(line):
                            values = [form_value((*form[:len(point)], form[3]), point) for form, _ in rows]
                            behind = all(value > 0 or (value == 0 and above == 0)
                                         for value, (_, above) in zip(values, rows))
                            has_words = words_at_point(good, point) == sheet.told
                            self.assertIs(behind, below or (k % 2 == 1 and has_words))
                            border += behind and 0 in values
                            below = below or has_words
        self.assertGreater(border, 100)

    def test_at_drawn_lines(self):
        chance = random.Random(148)
        for good in THREE + WIDE + MOODS:
            bounds = [thing[2:4] for thing in all_things(good)]
            for number in moves(good):
                drop, lift = drop_by(good, number), lift_by(good, number)
                if drop is not None:
                    self.check_pair(good, number, drop, 1)
                if lift is not None:
                    self.check_pair(good, number, lift, 0)
                self.assertEqual(number in moody(good), drop is not None and lift is not None)
                for prices in [drawn_prices(chance, bounds) for _ in range(5)] + list(drop or ()) + list(lift or ()):
                    words = [word for row in here_turns(good, prices, number) for word in row[1:] if word is not None]
                    if 1 in words and 0 in words[words.index(1):]:
                        self.assertIsNotNone(drop)
                    if 0 in words and 1 in words[words.index(0):]:
                        self.assertIsNotNone(lift)

    def test_what_does_not_move(self):
        for good in GOODS + LIVELY + WIDE:
            for number, thing in enumerate(all_things(good)):
                if thing[2] == thing[3]:
                    self.assertEqual((drop_by(good, number), lift_by(good, number)), (None, None))
                    self.assertNotIn(number, moody(good))

    def test_a_good_of_one_step_is_lifted_from_here_and_dropped_from_away(self):
        for good in LIVELY + THREE:
            if len([1 for thing in all_things(good) if thing[0] == "made"]) == 1:
                for number in moves(good):
                    wrong = drop_by if all_things(good)[number][1] == "here" else lift_by
                    self.assertIsNone(wrong(good, number))
                self.assertEqual(moody(good), ())

    def test_prices_between_which_it_rises_are_within_the_bounds(self):
        for good in LIVELY + WIDE + MOODS:
            for number in moves(good):
                for pair in (drop_by(good, number), lift_by(good, number)):
                    for prices in pair or ():
                        for low, price, high in zip(lows(good), prices, highs(good)):
                            self.assertTrue(ratio(low) <= Fraction(*price) <= ratio(high))


class RefusedTest(unittest.TestCase):
    def test_what_is_no_number(self):
        for good in (LAMP, MOODY):
            many = len(all_things(good))
            bad = [value for value in ODD if not (type(value) is int and 0 <= value < many)]
            for number in bad + [many, many + 1, -1, -many, True, False, "0", (0,), [0], 0.0, 10 ** 60, (1, 1)]:
                for function in (drop_by, lift_by):
                    with self.assertRaises(BadNumber) as caught:
                        function(good, number)
                    self.assertIs(caught.exception.value, number)

    def test_no_good_ahead_of_no_number(self):
        for value in ODD:
            for call in (lambda good: drop_by(good, None), lambda good: lift_by(good, 99), moody):
                with self.assertRaises(BadGood) as caught:
                    call(value)
                self.assertEqual((caught.exception.number, caught.exception.part), (0, "form"))
