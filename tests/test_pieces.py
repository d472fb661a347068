"""FORMS, CORNERS, and which WORDS come: by hand, and against the slow reckoning of tests/slow.py."""

import random
import unittest
from fractions import Fraction

from madeofhere.counts import words_at
from madeofhere.goods import highs, lows, moves
from madeofhere.pieces import coming, corners, do_come, forms, prices_for
from madeofhere.sures import weights_for
from tests.drawing import drawn_goods, drawn_prices, goods_at_the_bounds, lonely_goods
from tests.samples import CART, GIFT, LAMP, TRUCK, chain, made, ratio, raw, wide
from tests.slow import (
    all_things, all_words, as_ratios, form_value, forms_at, mean, meeting, prices_of_point, slow_coming, slow_corners,
    slow_forms,
)

GOODS = [LAMP, TRUCK, CART, GIFT, made([raw(1, 1)]), wide(10), chain(4, raw(1, 2))] + lonely_goods()
DRAWN = drawn_goods(11, 6, 6) + drawn_goods(12, 2, 3, 10) + drawn_goods(13, 2, 10 ** 6, 10)
BOUNDS = goods_at_the_bounds(14, 3)

# What costs a third or two thirds: its corners are told by prices that Python's order of pairs would not put so.
THIRDS = made([raw(0, 1, "away"), raw(1, 1, "away")], 0, 1, rule=(40, "own", "own"))


def point_of(good, prices):
    return tuple(ratio(prices[number]) for number in moves(good))


class FormsTest(unittest.TestCase):
    def test_by_hand(self):
        # 100 times 10 to 30 and 0 to 10, less 50 times that and 20: 50 a + 50 b - 1000.
        self.assertEqual(forms(LAMP, (1,)), ((1, 0, -10), (-1, 0, 30), (0, 1, 0), (0, -1, 10), (50, 50, -1000)))
        self.assertEqual(forms(LAMP, (0,)), ((1, 0, -10), (-1, 0, 30), (0, 1, 0), (0, -1, 10), (-50, -50, 1000)))

    def test_of_two_steps_by_hand(self):
        # The COST is 55 + a + b; of the LAMP 20 + a + b counts if it is of here, otherwise nothing.
        low, high = ((1, 0, -10), (-1, 0, 30)), ((0, 1, 0), (0, -1, 10))
        self.assertEqual(forms(TRUCK, (1, 1)), low + high + ((40, 40, 2000 - 60 * 55), (50, 50, -1000)))
        self.assertEqual(forms(TRUCK, (0, 1)), low + high + ((-40, -40, 60 * 55 - 2000), (50, 50, -1000)))
        self.assertEqual(forms(TRUCK, (1, 0)), low + high + ((-60, -60, -60 * 55), (-50, -50, 1000)))
        self.assertEqual(forms(TRUCK, (0, 0)), low + high + ((60, 60, 60 * 55), (-50, -50, 1000)))

    def test_without_a_thing_that_moves(self):
        self.assertEqual(forms(made([raw(3, 3, "away")], 2, 2), (0,)), ((50 * 5 - 200,),))
        self.assertEqual(forms(made([raw(3, 3, "away")], 2, 2), (1,)), ((200 - 50 * 5,),))

    def test_against_slow_forms(self):
        for good in GOODS + DRAWN + BOUNDS:
            for words in all_words(good):
                self.assertEqual(forms(good, words), slow_forms(good, words))

    def test_what_they_come_to_at_drawn_prices(self):
        chance = random.Random(21)
        for good in GOODS + DRAWN + BOUNDS:
            bounds = [thing[2:4] for thing in all_things(good)]
            for _ in range(2):
                prices = drawn_prices(chance, bounds)
                point = point_of(good, prices)
                for words in all_words(good):
                    values = [form_value(form, point) for form in forms(good, words)]
                    self.assertEqual(values, forms_at(good, words, as_ratios(prices)))

    def test_they_tell_which_words_a_good_has(self):
        chance = random.Random(22)
        for good in GOODS + DRAWN + BOUNDS:
            bounds = [thing[2:4] for thing in all_things(good)]
            for prices in lows(good), highs(good), drawn_prices(chance, bounds), drawn_prices(chance, bounds):
                point = point_of(good, prices)
                right = []
                for words in all_words(good):
                    values = [form_value(form, point) for form in forms(good, words)]
                    last = values[2 * len(point):]
                    if min(values) >= 0 and all(value > 0 for value, word in zip(last, words) if word == 0):
                        right.append(words)
                self.assertEqual(right, [words_at(good, prices)])


class CornersTest(unittest.TestCase):
    def test_by_hand(self):
        # At least 20 of work and the part together, within 10 to 30 and 0 to 10.
        self.assertEqual(corners(LAMP, (1,)), (
            ((10, 1), (20, 1), (10, 1)), ((20, 1), (20, 1), (0, 1)), ((30, 1), (20, 1), (0, 1)),
            ((30, 1), (20, 1), (10, 1)),
        ))
        self.assertEqual(corners(LAMP, (0,)), (
            ((10, 1), (20, 1), (0, 1)), ((10, 1), (20, 1), (10, 1)), ((20, 1), (20, 1), (0, 1)),
        ))

    def test_against_all_choices_of_forms(self):
        for good in GOODS + DRAWN + BOUNDS:
            for words in all_words(good):
                self.assertEqual(corners(good, words), slow_corners(good, words))

    def test_each_is_in_the_sheet_and_held_by_as_many_forms_as_move(self):
        for good in GOODS + DRAWN + BOUNDS:
            for words in all_words(good):
                rows = forms(good, words)
                for prices in corners(good, words):
                    point = point_of(good, prices)
                    self.assertEqual(prices, prices_of_point(good, point))
                    self.assertGreaterEqual(min(form_value(row, point) for row in rows), 0)
                    tight = [row for row in rows if form_value(row, point) == 0]
                    self.assertTrue(self.has_meeting(tight, len(point)))

    def has_meeting(self, rows, many, picked=()):
        if len(picked) == many:
            return meeting(picked) is not None
        return any(self.has_meeting(rows[at + 1:], many, picked + (row,)) for at, row in enumerate(rows))

    def test_a_sheet_is_what_lies_between_its_corners(self):
        chance = random.Random(24)
        for good in GOODS + DRAWN + BOUNDS:
            bounds = [thing[2:4] for thing in all_things(good)]
            for words in all_words(good):
                rows = forms(good, words)
                points = [point_of(good, prices) for prices in corners(good, words)]
                # What is mixed of corners is in the SHEET.
                for _ in range(2 if points else 0):
                    times = [chance.randint(0, 3) for _ in points]
                    times[chance.randrange(len(times))] += 1
                    mixed = [sum(one * price for one, price in zip(times, column)) / sum(times)
                             for column in zip(*points)]
                    self.assertGreaterEqual(min(form_value(row, mixed) for row in rows), 0)
                # What is in the SHEET is beyond its corners to no side.
                for prices in lows(good), highs(good), drawn_prices(chance, bounds):
                    point = point_of(good, prices)
                    if min(form_value(row, point) for row in rows) >= 0:
                        for _ in range(3):
                            side = [chance.randint(-5, 5) for _ in point] + [0]
                            most = max(form_value(side, corner) for corner in points)
                            self.assertLessEqual(form_value(side, point), most)

    def test_no_corner_is_come_to_on_the_way_between_others(self):
        for good in GOODS + DRAWN[::2] + BOUNDS:
            for words in all_words(good):
                points = [point_of(good, prices) for prices in corners(good, words)]
                rows = forms(good, words)
                for point in points:
                    for other in points:
                        if other != point:
                            # Ahead of the end that the corner is, the way would have to go on behind it.
                            behind = [price + (price - more) / 10 ** 6 for price, more in zip(point, other)]
                            self.assertLess(min(form_value(row, behind) for row in rows), 0)

    def test_ascending_as_numbers(self):
        unlike = 0
        for good in [THIRDS] + GOODS + DRAWN + BOUNDS:
            for words in all_words(good):
                rows = corners(good, words)
                numbers = [as_ratios(prices) for prices in rows]
                self.assertTrue(all(one < other for one, other in zip(numbers, numbers[1:])))
                unlike += rows != tuple(sorted(rows))
        self.assertGreater(unlike, 10)

    def test_a_row_that_pairs_of_python_would_put_otherwise(self):
        # At 40 of 100: 60 a - 40 b - 40 is 0 at (2/3, 0), and at (1, 1/2).
        self.assertEqual(corners(THIRDS, (1,)), (
            ((2, 3), (0, 1), (1, 1)), ((1, 1), (0, 1), (1, 1)), ((1, 1), (1, 2), (1, 1)),
        ))
        self.assertEqual(corners(THIRDS, (0,)), (
            ((0, 1), (0, 1), (1, 1)), ((0, 1), (1, 1), (1, 1)), ((2, 3), (0, 1), (1, 1)), ((1, 1), (1, 2), (1, 1)),
            ((1, 1), (1, 1), (1, 1)),
        ))

    def test_without_a_thing_that_moves(self):
        good = made([raw(3, 3, "away"), made([raw(1, 1)])], 2, 2, rule=(50, "whole", "none"))
        self.assertEqual(corners(good, (1, 1)), (lows(good),))
        self.assertEqual(corners(good, (0, 1)), (lows(good),))
        self.assertEqual(corners(good, (1, 0)), ())
        self.assertEqual(corners(good, (0, 0)), ())

    def test_words_that_do_not_come_may_have_corners(self):
        # Just half of it is of here: the sheet of the word 0 is the same as that of the word 1, but it does not come.
        good = made([raw(2, 2, "away")], 2, 2)
        self.assertEqual(corners(good, (0,)), (lows(good),))
        self.assertIs(do_come(good, (0,)), False)
        # The work and the part move, and at (2, 0) alone it is just half.
        good = made([raw(0, 1), raw(2, 2, "away")], 2, 3)
        self.assertEqual(corners(good, (0,)), (((2, 1), (0, 1), (2, 1)),))
        self.assertIs(do_come(good, (0,)), False)
        self.assertEqual(coming(good), ((1,),))


class ComingTest(unittest.TestCase):
    def test_by_hand(self):
        self.assertEqual(coming(LAMP), ((0,), (1,)))
        self.assertEqual(coming(TRUCK), ((0, 0), (0, 1), (1, 1)))
        self.assertEqual(coming(made([raw(1, 1)])), ((1,),))
        self.assertEqual(coming(GIFT), ((0, 1), (1, 1)))

    def test_against_slow_coming(self):
        for good in GOODS + DRAWN + BOUNDS:
            found = slow_coming(good)
            self.assertEqual(coming(good), tuple(sorted(found)))
            for words in all_words(good):
                self.assertIs(do_come(good, words), words in found)
                prices = prices_for(good, words)
                self.assertEqual(prices is not None, words in found)
                self.assertEqual(weights_for(good, words) is None, words in found)
                if prices is not None:
                    self.assertEqual(words_at(good, prices), words)

    def test_the_mean_of_all_corners_is_in_the_piece(self):
        for good in GOODS + DRAWN + BOUNDS:
            for words in coming(good):
                rows = [point_of(good, prices) for prices in corners(good, words)]
                self.assertEqual(words_at(good, prices_of_point(good, mean(rows))), words)

    def test_words_at_drawn_prices_come(self):
        chance = random.Random(23)
        for good in DRAWN + BOUNDS:
            bounds = [thing[2:4] for thing in all_things(good)]
            for _ in range(4):
                self.assertIn(words_at(good, drawn_prices(chance, bounds)), coming(good))

    def test_sheets_on_the_border_alone_are_among_those_drawn(self):
        many = 0
        for good in DRAWN + BOUNDS:
            many += len([words for words in all_words(good) if corners(good, words) and not do_come(good, words)])
        self.assertGreater(many, 20)

    def test_prices_are_within_their_bounds_just_so(self):
        for good in DRAWN:
            for words in coming(good):
                for price, thing in zip(prices_for(good, words), all_things(good)):
                    self.assertTrue(thing[2] <= Fraction(*price) <= thing[3])
