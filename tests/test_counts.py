"""What a GOOD costs, what of it counts, and whether it is of here: sums worked out by hand, and others."""

import copy
import itertools
import random
import unittest

from madeofhere.counts import costs, counted, is_of_here, owns, portion, words_at
from madeofhere.errors import BadGood, BadPrices, MakeError
from madeofhere.goods import highs, lows, things
from tests.drawing import drawn_goods, drawn_prices, goods_at_the_bounds, lonely_goods
from tests.samples import (
    CART, GIFT, LAMP, ODD, TRUCK, Agreeing, Raising, chain, made, price_grid, ratio, raw, slow_sums, told, wide,
)

FUNCTIONS = (costs, owns, counted, words_at, is_of_here, portion)
GOODS = (LAMP, TRUCK, CART, GIFT, made([raw(1, 1)]), wide(10), chain(4, raw(1, 2)))


def whole(*numbers):
    """These integers as FRACTIONS."""
    return tuple((number, 1) for number in numbers)


class SumsTest(unittest.TestCase):
    def check(self, good, prices, cost, own, counts, words, share):
        self.assertEqual(costs(good, prices), cost)
        self.assertEqual(owns(good, prices), own)
        self.assertEqual(counted(good, prices), counts)
        self.assertEqual(words_at(good, prices), words)
        self.assertIs(is_of_here(good, prices), words[0] == 1)
        self.assertEqual(portion(good, prices), share)


class LampTest(SumsTest):
    """One step, of here with 50 of 100: work for 10 to 30, 20 from away, 0 to 10 from here."""

    def test_all_low(self):
        # 10 of 30 is of here, so it is not, and nothing counts.
        self.check(LAMP, lows(LAMP), whole(30, 20, 0), whole(10, 0, 0), whole(0, 0, 0), (0,), (1, 3))

    def test_all_high(self):
        # 40 of 60 is of here, so it is, and the whole counts.
        self.check(LAMP, highs(LAMP), whole(60, 20, 10), whole(40, 0, 10), whole(60, 0, 10), (1,), (2, 3))

    def test_just_enough(self):
        self.check(LAMP, whole(10, 20, 10), whole(40, 20, 10), whole(20, 0, 10), whole(40, 0, 10), (1,), (1, 2))

    def test_just_too_little(self):
        # 39/2 of 79/2 is 39 of 79.
        self.check(
            LAMP, ((10, 1), (20, 1), (19, 2)), ((79, 2), (20, 1), (19, 2)), ((39, 2), (0, 1), (19, 2)),
            ((0, 1), (0, 1), (19, 2)), (0,), (39, 79),
        )

    def test_between_with_unlike_divisors(self):
        # 41/4 and 10/3 are 163/12, and with 20 they are 403/12.
        self.check(
            LAMP, ((41, 4), (20, 1), (10, 3)), ((403, 12), (20, 1), (10, 3)), ((163, 12), (0, 1), (10, 3)),
            ((0, 1), (0, 1), (10, 3)), (0,), (163, 403),
        )

    def test_prices_with_sixty_figures(self):
        of = 10 ** 59
        prices = ((10 * of + 1, of), (20, 1), (10 * of - 1, of))
        # The work and the part from here are 20 together, as in test_just_enough.
        self.check(LAMP, prices, whole(40, 20) + prices[2:], ((20, 1), (0, 1), prices[2]),
                   ((40, 1), (0, 1), prices[2]), (1,), (1, 2))
        # A little less in the part alone, and it is not of here any more.
        self.assertEqual(words_at(LAMP, whole(10, 20) + prices[2:]), (0,))

    def test_prices_with_unlike_long_divisors(self):
        one, other = 10 ** 29 + 7, 10 ** 29 + 9
        prices = ((10 * one + 1, one), (20, 1), (1, other))
        self.assertEqual(costs(LAMP, prices)[0], (30 * one * other + other + one, one * other))


class TruckTest(SumsTest):
    """The LAMP in what is made away for 5, with 30 more from away; of here with 60 of 100."""

    def test_all_low(self):
        self.check(TRUCK, lows(TRUCK), whole(65, 30, 20, 0, 30), whole(0, 10, 0, 0, 0), whole(0, 0, 0, 0, 0),
                   (0, 0), (0, 1))

    def test_all_high(self):
        # The LAMP is of here and counts whole: 60 of 95, of which 57 would do.
        self.check(TRUCK, highs(TRUCK), whole(95, 60, 20, 10, 30), whole(60, 40, 0, 10, 0), whole(60, 60, 0, 10, 0),
                   (1, 1), (12, 19))

    def test_a_part_of_here_that_is_too_little(self):
        # The LAMP costs 40 and is just of here: 40 of 75, of which 45 would do.
        self.check(TRUCK, whole(5, 10, 20, 10, 30), whole(75, 40, 20, 10, 30), whole(40, 20, 0, 10, 0),
                   whole(40, 40, 0, 10, 0), (0, 1), (8, 15))

    def test_a_little_dearer_part_turns_the_word_of_all(self):
        # Work for 25 and 0 more: the LAMP of 45 counts whole, 45 of 80 and 48 would do; with 15/2 more it is 105/2 of
        # 175/2, which is just enough.
        self.assertEqual(words_at(TRUCK, whole(5, 25, 20, 0, 30)), (0, 1))
        self.assertEqual(words_at(TRUCK, ((5, 1), (25, 1), (20, 1), (15, 2), (30, 1))), (1, 1))
        self.assertEqual(portion(TRUCK, ((5, 1), (25, 1), (20, 1), (15, 2), (30, 1))), (3, 5))
        self.assertEqual(words_at(TRUCK, whole(5, 25, 20, 7, 30)), (0, 1))


class CartTest(SumsTest):
    """Steps beside and within one another, with all RULES but one."""

    def test_all_low(self):
        # 1: 2 + 1 of 3, of here, whole. 6: 0 of 6, of here as nothing is asked for, its own 0. 3: 4 of 21, not, and
        # nothing counts. 0: 11 + 3 + 0 of 35, and 14 is just 40 of 100.
        self.check(
            CART, lows(CART), whole(35, 3, 1, 21, 3, 4, 6, 6, 0), whole(14, 3, 1, 4, 0, 4, 0, 0, 0),
            whole(14, 3, 1, 0, 0, 4, 0, 0, 0), (1, 1, 0, 1), (2, 5),
        )

    def test_all_high(self):
        # 6: 7 of 13. 3: 4 + 7 of 8 + 5 + 4 + 13 = 30, not. 0: 11 + 3 + 0 + 9 of 11 + 3 + 30 + 9 = 53.
        self.check(
            CART, highs(CART), whole(53, 3, 1, 30, 5, 4, 13, 6, 9), whole(23, 3, 1, 11, 0, 4, 7, 0, 9),
            whole(23, 3, 1, 0, 0, 4, 7, 0, 9), (1, 1, 0, 1), (23, 53),
        )

    def test_between(self):
        # 4 costs 7/2: 0: 14 of 71/2, and 71/5 would do.
        prices = whole(11, 2, 1, 8) + ((7, 2),) + whole(4, 0, 6, 0)
        self.check(
            CART, prices, ((71, 2), (3, 1), (1, 1), (43, 2), (7, 2)) + whole(4, 6, 6, 0),
            whole(14, 3, 1, 4, 0, 4, 0, 0, 0), whole(14, 3, 1, 0, 0, 4, 0, 0, 0), (0, 1, 0, 1), (28, 71),
        )


class RuleTest(SumsTest):
    """A part of which 4 of 10 is of here, by each RULE, in a good with 10 more from away."""

    def good(self, rule):
        return made([made([raw(6, 6, "away"), raw(1, 1)], 3, 3, "here", rule), raw(10, 10, "away")], 0, 0,
                    "here", (20, "own", "none"))

    def check_part(self, rule, word, counts):
        good = self.good(rule)
        own = (counts, 1)
        self.check(good, lows(good), whole(20, 10, 6, 1, 10), (own,) + whole(4, 0, 1, 0),
                   (own if counts >= 4 else (0, 1), own) + whole(0, 1, 0), (1 if counts >= 4 else 0, word),
                   told(ratio((counts, 20))))

    def test_of_here(self):
        for share in (0, 1, 39, 40):
            for down in ("own", "none"):
                self.check_part((share, "whole", down), 1, 10)
                self.check_part((share, "own", down), 1, 4)

    def test_not_of_here(self):
        for share in (41, 99, 100):
            for up in ("whole", "own"):
                self.check_part((share, up, "own"), 0, 4)
                self.check_part((share, up, "none"), 0, 0)

    def test_share_0_without_anything_of_here(self):
        for up, counts in (("whole", 5), ("own", 0)):
            for down in ("own", "none"):
                good = made([raw(3, 3, "away")], 2, 2, "away", (0, up, down))
                self.check(good, lows(good), whole(5, 3), whole(0, 0), whole(counts, 0), (1,), (0, 1))

    def test_share_100_with_all_of_here_and_with_a_little_less(self):
        all_here = made([raw(3, 3)], 2, 2, "here", (100, "whole", "none"))
        self.check(all_here, lows(all_here), whole(5, 3), whole(5, 3), whole(5, 3), (1,), (1, 1))
        good = made([raw(3, 3), raw(0, 1, "away")], 2, 2, "here", (100, "whole", "none"))
        self.check(good, lows(good), whole(5, 3, 0), whole(5, 3, 0), whole(5, 3, 0), (1,), (1, 1))
        prices = whole(2, 3) + ((1, 10 ** 50),)
        self.assertEqual(words_at(good, prices), (0,))
        self.assertIs(is_of_here(good, prices), False)
        self.assertEqual(counted(good, prices)[0], (0, 1))
        self.assertEqual(portion(good, prices), (5 * 10 ** 50, 5 * 10 ** 50 + 1))

    def test_a_part_of_here_by_its_parts_counts_whole_at_share_100(self):
        # The inner one has 1 of 2 of here and counts 2, so all of the outer one is of here.
        good = made([made([raw(1, 1), raw(1, 1, "away")])], 0, 0, "away", (100, "whole", "none"))
        self.check(good, lows(good), whole(2, 2, 1, 1), whole(2, 1, 1, 0), whole(2, 2, 1, 0), (1, 1), (1, 1))

    def test_what_costs_nothing_is_of_here(self):
        self.check(GIFT, lows(GIFT), whole(1, 0, 0, 1), whole(0, 0, 0, 0), whole(0, 0, 0, 0), (0, 1), (0, 1))
        self.check(GIFT, highs(GIFT), whole(4, 0, 0, 1), whole(3, 0, 0, 0), whole(4, 0, 0, 0), (1, 1), (3, 4))
        self.check(GIFT, whole(1, 0, 0, 1), whole(2, 0, 0, 1), whole(1, 0, 0, 0), whole(2, 0, 0, 0), (1, 1), (1, 2))

    def test_work_away_does_not_count(self):
        good = made([raw(4, 4)], 6, 6, "away", (40, "own", "none"))
        self.check(good, lows(good), whole(10, 4), whole(4, 4), whole(4, 4), (1,), (2, 5))


class AgainstTheWordsOfTheDocumentTest(SumsTest):
    def check_slowly(self, good, prices):
        cost, own, counts, words = slow_sums(good, prices)
        self.check(good, prices, cost, own, counts, words, told(ratio(own[0]) / ratio(cost[0])))

    def test_goods_at_many_prices(self):
        for good in GOODS:
            for prices in price_grid([thing[2:4] for thing in things(good)]):
                self.check_slowly(good, prices)

    def test_goods_of_all_rules_and_lands(self):
        rules = list(itertools.product((0, 33, 50, 100), ("whole", "own"), ("own", "none")))
        lands = ("here", "away")
        for outer, inner, one, other in itertools.product(rules, rules, lands, lands):
            part = made([raw(2, 2), raw(3, 3, other)], 1, 1, one, inner)
            good = made([raw(1, 1, one), part, raw(2, 2, "away")], 1, 1, other, outer)
            self.check_slowly(good, lows(good))

    def test_drawn_goods_at_drawn_prices(self):
        chance = random.Random(3)
        for good in drawn_goods(1, 12, 9, 10) + goods_at_the_bounds(2, 12) + lonely_goods():
            bounds = [thing[2:4] for thing in things(good)]
            for prices in lows(good), highs(good), drawn_prices(chance, bounds), drawn_prices(chance, bounds):
                self.check_slowly(good, prices)


class KindsTest(unittest.TestCase):
    def test_fractions_are_pairs_of_integers_without_a_common_divisor(self):
        for good in GOODS:
            for prices in price_grid([thing[2:4] for thing in things(good)]):
                for row in costs(good, prices), owns(good, prices), counted(good, prices), (portion(good, prices),):
                    self.assertIs(type(row), tuple)
                    for fraction in row:
                        self.assertIs(type(fraction), tuple)
                        self.assertEqual([type(number) for number in fraction], [int, int])
                        self.assertEqual(fraction, told(ratio(fraction)))

    def test_words_are_a_tuple_of_integers(self):
        for good in GOODS:
            words = words_at(good, lows(good))
            self.assertIs(type(words), tuple)
            self.assertEqual({type(word) for word in words}, {int})

    def test_whether_it_is_of_here_is_true_or_false(self):
        self.assertIs(is_of_here(LAMP, lows(LAMP)), False)
        self.assertIs(is_of_here(LAMP, highs(LAMP)), True)

    def test_by_the_names_of_the_parameters(self):
        for function in FUNCTIONS:
            for good in GOODS:
                prices = highs(good)
                expected = function(good, prices)
                self.assertEqual(function(good=good, prices=prices), expected)
                self.assertEqual(function(prices=prices, good=good), expected)
                self.assertEqual(function(good, prices=prices), expected)

    def test_equal_calls_return_equal_results(self):
        for function in FUNCTIONS:
            for good in GOODS:
                expected = function(good, highs(good))
                function(good, lows(good))
                self.assertEqual(function(copy.deepcopy(good), highs(good)), expected)

    def test_no_argument_is_changed(self):
        for function in FUNCTIONS:
            for good in GOODS:
                prices = highs(good)
                before = copy.deepcopy((good, prices))
                function(good, prices)
                self.assertEqual((good, prices), before)


class RefusedTest(unittest.TestCase):
    def refuse_good(self, good, prices, number, part):
        for function in FUNCTIONS:
            with self.assertRaises(BadGood) as caught:
                function(good, prices)
            self.assertEqual((caught.exception.number, caught.exception.part), (number, part))

    def refuse_prices(self, good, prices, number):
        for function in FUNCTIONS:
            with self.assertRaises(BadPrices) as caught:
                function(good, prices)
            self.assertEqual(caught.exception.number, number)
            with self.assertRaises(MakeError):
                function(prices=prices, good=good)

    def test_no_good(self):
        prices = lows(LAMP)
        for value in ODD:
            self.refuse_good(value, prices, 0, "form")
            self.refuse_good(made([raw(1, 1), value]), prices, 2, "form")
        self.refuse_good(made([raw(1, 1, "there")]), prices, 1, "land")
        self.refuse_good(raw(1, 1), whole(1), 0, "raw")
        self.refuse_good(made([raw(0, 1)] * 4), prices, 0, "moves")
        self.refuse_good(made([raw(0, 0)]), whole(0, 0), 0, "nothing")
        self.refuse_good(wide(11), prices, 10, "many")

    def test_no_good_and_no_prices_either(self):
        for value in ODD:
            self.refuse_good(made([raw(0, 0)]), value, 0, "nothing")
            self.refuse_good(made([raw(1, 1), raw(1, 0)]), value, 2, "high")
            self.refuse_good(value, value, 0, "form")

    def test_no_tuple_of_as_many_things(self):
        for value in ODD:
            if isinstance(value, tuple) and len(value) == 3:
                continue
            self.refuse_prices(LAMP, value, None)
        for prices in (lows(LAMP)[:2], lows(LAMP) + ((0, 1),), list(lows(LAMP)), (), dict(enumerate(lows(LAMP)))):
            self.refuse_prices(LAMP, prices, None)
        self.refuse_prices(LAMP, (None, None), None)
        self.refuse_prices(LAMP, (None,) * 4, None)
        self.refuse_prices(TRUCK, lows(LAMP), None)

    def test_any_value_as_a_price(self):
        for value in ODD + ([10, 1], (10,), (10, 1, 1), "10/1", 10, ("10", "1"), {10: 1}):
            for at in range(3):
                prices = list(lows(LAMP))
                prices[at] = value
                self.refuse_prices(LAMP, tuple(prices), at)

    def test_pairs_that_are_no_fractions(self):
        for value in (
            (20, 2), (0, 2), (10, 0), (10, -1), (-10, -1), (-10, 1), (True, 1), (10, True), (False, 1), (22, 4),
            (None, 1), (10, None), (10 ** 60, 10 ** 59), (Agreeing(), 1), (10, Agreeing()), (Raising(), Raising()),
            ((10, 1), 1), ([10], [1]), ("10", 1),
        ):
            self.refuse_prices(LAMP, (value, (20, 1), (0, 1)), 0)
            self.refuse_prices(made([raw(1, 1)], 0, 20), (value, (1, 1)), 0)

    def test_minus_divided_by_minus(self):
        self.refuse_prices(LAMP, whole(10) + ((-20, -1),) + whole(0), 1)
        self.refuse_prices(TRUCK, ((-5, -1),) + lows(TRUCK)[1:], 0)

    def test_nothing_is_0_out_of_1_alone(self):
        good = made([raw(1, 1), raw(0, 5)])
        self.assertEqual(costs(good, whole(0, 1, 0)), whole(1, 1, 0))
        for of in (0, 2, 5, -1):
            self.refuse_prices(good, whole(0, 1) + ((0, of),), 2)
        self.refuse_prices(good, whole(0, 1) + ((False, 1),), 2)

    def test_bounds_of_a_price(self):
        good = made([raw(3, 5)], 10 ** 6, 10 ** 6)
        for price in ((3, 1), (5, 1), (7, 2), (3 * 10 ** 58 + 1, 10 ** 58), (5 * 10 ** 58 - 1, 10 ** 58)):
            self.assertEqual(owns(good, whole(10 ** 6) + (price,))[1], price)
        for price in ((2, 1), (6, 1), (0, 1), (-3, 1), (5, 2), (11, 2), (3 * 10 ** 58 - 1, 10 ** 58),
                      (5 * 10 ** 58 + 1, 10 ** 58), (10 ** 60, 1), (1, 10 ** 59)):
            self.refuse_prices(good, whole(10 ** 6) + (price,), 1)
        for price in ((10 ** 6 - 1, 1), (10 ** 6 + 1, 1)):
            self.refuse_prices(good, (price, (3, 1)), 0)

    def test_the_first_wrong_price(self):
        self.refuse_prices(LAMP, (None, None, None), 0)
        self.refuse_prices(LAMP, ((10, 1), (21, 1), None), 1)
        self.refuse_prices(LAMP, ((31, 1), (20, 1), (0, 2)), 0)
        self.refuse_prices(LAMP, ((30, 1), (20, 1), (0, 2)), 2)
        self.refuse_prices(TRUCK, whole(5, 10, 20, 11, 29), 3)
        self.refuse_prices(TRUCK, whole(5, 10, 20, 10, 29), 4)

    def test_what_is_refused_is_not_changed(self):
        prices = [[10, 1], [20, 1], [0, 1]]
        self.refuse_prices(LAMP, prices, None)
        self.refuse_prices(LAMP, tuple(prices), 0)
        self.assertEqual(prices, [[10, 1], [20, 1], [0, 1]])
