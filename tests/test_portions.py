"""The least and the greatest PORTION, whether they are reached, PRICES of a PORTION, and the SHARES of STEP 0."""

import random
import unittest
from fractions import Fraction

from madeofhere.counts import portion
from madeofhere.errors import BadFraction
from madeofhere.files import File
from madeofhere.goods import highs, lows
from madeofhere.portions import greatest_portion, least_portion, most_ever, most_sure, prices_of
from madeofhere.sures import is_never, is_sure
from tests.drawing import drawn_goods, drawn_prices, goods_at_the_bounds, lonely_goods
from tests.samples import CART, GIFT, LAMP, ODD, TRUCK, Agreeing, Raising, chain, made, ratio, raw, told, wide
from tests.slow import all_things, mean, prices_of_point, slow_coming, told_sums, with_share

DRAWN = drawn_goods(41, 8, 6) + drawn_goods(42, 4, 3, 10) + drawn_goods(43, 2, 10 ** 6, 10)
BOUNDS = goods_at_the_bounds(44, 4)
# A part of 6 from away and 2 to 6 from here, beside 3 from here: it counts whole at 6, and nothing of it below. So the
# PORTION falls from 3 of 11 to nearly 3 of 15, and at 6 it is all of 15.
NEAR = made([made([raw(2, 6), raw(6, 6, "away")]), raw(3, 3)])

# A part of 3 from here and 1 to 5 from away, with 1 more from away: it counts whole up to 3, and nothing of it beyond.
FAR = made([made([raw(3, 3), raw(1, 5, "away")])], 1, 1, "away")
GOODS = [LAMP, TRUCK, CART, GIFT, NEAR, FAR, made([raw(1, 1)]), wide(10), chain(4, raw(1, 2))] + lonely_goods()
ALL = GOODS + DRAWN + BOUNDS


def slow_portions(good):
    """All PORTIONS at the corners of all words that come, each with the words and the point."""
    rows = []
    for words, points in slow_coming(good).items():
        for point in points:
            prices = [ratio(price) for price in prices_of_point(good, point)]
            cost, own, _ = told_sums(good, prices, words)[0]
            rows.append((own / cost, words, point))
    return rows


def slow_edge(good, rows, pick):
    """The least or the greatest PORTION, reached if it is that in the middle of the corners at which it would be."""
    best = pick(row[0] for row in rows)
    reached = 0
    for words in {row[1] for row in rows}:
        points = [row[2] for row in rows if row[:2] == (best, words)]
        if points and portion(good, prices_of_point(good, mean(points))) == told(best):
            reached = 1
    return told(best), reached


class EdgesTest(unittest.TestCase):
    def test_by_hand(self):
        self.assertEqual(least_portion(LAMP), ((1, 3), 1))
        self.assertEqual(greatest_portion(LAMP), ((2, 3), 1))
        # The LAMP counts whole or not at all: 0, and 60 of 95.
        self.assertEqual(least_portion(TRUCK), ((0, 1), 1))
        self.assertEqual(greatest_portion(TRUCK), ((12, 19), 1))
        self.assertEqual(least_portion(FAR), ((0, 1), 1))
        self.assertEqual(greatest_portion(FAR), ((6, 7), 1))

    def test_the_least_that_is_not_reached(self):
        self.assertEqual(least_portion(NEAR), ((1, 5), 0))
        self.assertEqual(greatest_portion(NEAR), ((1, 1), 1))
        # With up to 5 from here alone it is never of here, and 3 of 14 is reached.
        self.assertEqual(least_portion(made([made([raw(2, 5), raw(6, 6, "away")]), raw(3, 3)])), ((3, 14), 1))
        # What the GOOD itself asks for does not matter.
        for share in (0, 19, 20, 21, 100):
            self.assertEqual(least_portion(with_share(NEAR, share)), ((1, 5), 0))
        self.assertGreater(len([good for good in ALL if least_portion(good)[1] == 0]), 3)

    def test_against_slow_edges(self):
        for good in ALL:
            rows = slow_portions(good)
            self.assertEqual(least_portion(good), slow_edge(good, rows, min))
            self.assertEqual(greatest_portion(good), slow_edge(good, rows, max))

    def test_the_greatest_is_always_reached(self):
        for good in ALL:
            self.assertEqual(greatest_portion(good)[1], 1)

    def test_no_portion_at_drawn_prices_is_beyond(self):
        chance = random.Random(45)
        for good in ALL:
            bounds = [thing[2:4] for thing in all_things(good)]
            least, greatest = ratio(least_portion(good)[0]), ratio(greatest_portion(good)[0])
            for prices in [lows(good), highs(good)] + [drawn_prices(chance, bounds) for _ in range(4)]:
                self.assertTrue(least <= ratio(portion(good, prices)) <= greatest)

    def test_it_does_not_hang_on_the_share_of_step_0(self):
        for good in GOODS + BOUNDS:
            for share in (0, 50, 100):
                other = with_share(good, share)
                self.assertEqual(least_portion(other), least_portion(good))
                self.assertEqual(greatest_portion(other), greatest_portion(good))


class PricesOfTest(unittest.TestCase):
    def check(self, good, fraction):
        prices = prices_of(good, fraction)
        if prices is not None:
            self.assertEqual(portion(good, prices), fraction)
        return prices is not None

    def test_by_hand(self):
        for fraction, found in (((1, 3), 1), ((2, 3), 1), ((1, 2), 1), ((33, 100), 0), ((67, 100), 0), ((0, 1), 0)):
            self.assertEqual(self.check(LAMP, fraction), found)
        for fraction, found in (
            ((1, 5), 0), ((200001, 10 ** 6), 1), ((3, 11), 1), ((28, 99), 0), ((1, 2), 0), ((1, 1), 1), ((0, 1), 0),
        ):
            self.assertEqual(self.check(NEAR, fraction), found)

    def test_the_edges(self):
        for good in ALL:
            for fraction, reached in (least_portion(good), greatest_portion(good)):
                self.assertEqual(self.check(good, fraction), reached)

    def test_beyond_the_edges(self):
        for good in ALL:
            least, greatest = ratio(least_portion(good)[0]), ratio(greatest_portion(good)[0])
            for fraction in (least / 2, least - Fraction(1, 10 ** 30), greatest + Fraction(1, 10 ** 30),
                             (greatest + 1) / 2, Fraction(0), Fraction(1)):
                if 0 <= fraction < least or greatest < fraction <= 1:
                    self.assertIsNone(prices_of(good, told(fraction)))

    def test_portions_at_drawn_prices(self):
        chance = random.Random(46)
        for good in ALL:
            bounds = [thing[2:4] for thing in all_things(good)]
            for prices in [lows(good), highs(good)] + [drawn_prices(chance, bounds) for _ in range(3)]:
                self.assertTrue(self.check(good, portion(good, prices)))

    def test_between_the_edges(self):
        # One step, and all prices between are portions; with steps within there are gaps.
        gaps = 0
        for good in ALL:
            least, greatest = ratio(least_portion(good)[0]), ratio(greatest_portion(good)[0])
            for part in range(1, 8):
                fraction = told(least + (greatest - least) * Fraction(part, 8))
                found = self.check(good, fraction)
                gaps += not found
                if len([thing for thing in all_things(good) if thing[0] == "made"]) == 1:
                    self.assertTrue(found)
                elif not found:
                    self.assertTrue(self.slow_gap(good, ratio(fraction)))
        self.assertGreater(gaps, 10)

    def slow_gap(self, good, fraction):
        """Whether no words that come have portions on both sides, nor just this one in the middle of where it is."""
        for words in {row[1] for row in slow_portions(good)}:
            rows = [row for row in slow_portions(good) if row[1] == words]
            if min(row[0] for row in rows) < fraction < max(row[0] for row in rows):
                return False
            points = [row[2] for row in rows if row[0] == fraction]
            if points and ratio(portion(good, prices_of_point(good, mean(points)))) == fraction:
                return False
        return True

    def test_what_is_no_fraction_from_0_to_1(self):
        bad = list(ODD) + [
            (2, 4), (0, 2), (3, 2), (-1, 2), (1, 0), (0, 0), (2, 1), (-1, 1), (1, -1), (0, -1), (-1, -2), [1, 2],
            (True, 1), (False, 1), (1, True), (0, True), (1,), ("1", "2"), "1/2", 1, 0, True, (None, 2), (1, None),
            ((1, 2),), (Raising(), 2), (1, Raising()), (Agreeing(), Agreeing()), File(LAMP), {1: 2}, (1, 2, 1), (2, 2),
            (10 ** 59 + 1, 10 ** 59), (-(10 ** 59), 10 ** 60 - 1), (10 ** 60, 10 ** 60),
        ]
        for good in (LAMP, NEAR, made([raw(1, 1)])):
            for value in bad:
                with self.assertRaises(BadFraction) as caught:
                    prices_of(good, value)
                self.assertIs(caught.exception.value, value)

    def test_fractions_with_sixty_figures(self):
        less = Fraction(1, 10 ** 59)
        self.assertTrue(self.check(LAMP, told(Fraction(1, 3) + less)))
        self.assertFalse(self.check(LAMP, told(Fraction(1, 3) - less)))


class SharesTest(unittest.TestCase):
    def test_by_hand(self):
        whole = chain(4, raw(1, 2))
        for good, sure, ever in ((LAMP, 33, 66), (TRUCK, 0, 63), (NEAR, 20, 100), (FAR, 0, 85), (whole, 100, 100)):
            self.assertEqual((most_sure(good), most_ever(good)), (sure, ever))

    def test_by_trying_all_shares(self):
        for good in GOODS + DRAWN[::2] + BOUNDS:
            sure = [share for share in range(101) if is_sure(with_share(good, share))]
            ever = [share for share in range(101) if not is_never(with_share(good, share))]
            self.assertEqual((most_sure(good), most_ever(good)), (max(sure), max(ever)))

    def test_it_does_not_hang_on_the_share_that_is_there(self):
        for good in GOODS:
            for share in (0, 50, 100):
                self.assertEqual(most_sure(with_share(good, share)), most_sure(good))
                self.assertEqual(most_ever(with_share(good, share)), most_ever(good))
