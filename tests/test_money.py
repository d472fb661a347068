"""What a FRACTION is, what are PRICES, and how they are brought to one unit."""

import unittest
from fractions import Fraction

from madeofhere.errors import BadPrices
from madeofhere.goods import lows, things
from madeofhere.money import common_unit, fractions_of, in_units, is_fraction, lowest_terms, need_prices
from tests.samples import LAMP, ODD, TRUCK, told


class MoneyTest(unittest.TestCase):
    def test_fractions(self):
        for value in ((0, 1), (1, 1), (1, 2), (-1, 2), (7, 3), (10 ** 60 + 1, 10 ** 60), (-5, 1)):
            self.assertIs(is_fraction(value, -5, 3), True)

    def test_what_is_none(self):
        for value in ODD + (
            (0, 0), (1, 0), (-1, 0), (0, 2), (2, 2), (4, 6), (1, -1), (-1, -1), (0, -1), (True, 1), (1, True),
            (1, 2, 3), [1, 2], ("1", 2), (1, None), (1,), (False, 1), (-2, -4), (-2, 4),
        ):
            self.assertIs(is_fraction(value, -10, 10), False)

    def test_bounds(self):
        for value in ((2, 1), (3, 1), (5, 2), (2 * 10 ** 50 + 1, 10 ** 50)):
            self.assertIs(is_fraction(value, 2, 3), True)
        for value in ((1, 1), (4, 1), (3, 2), (7, 2), (2 * 10 ** 50 - 1, 10 ** 50), (-2, 1), (0, 1)):
            self.assertIs(is_fraction(value, 2, 3), False)

    def test_prices(self):
        for good in (LAMP, TRUCK):
            self.assertIs(need_prices(things(good), prices := lows(good)), prices)
        for prices, number in ((None, None), (lows(TRUCK), None), (((10, 1), (20, 1), (11, 1)), 2)):
            with self.assertRaises(BadPrices) as caught:
                need_prices(things(LAMP), prices)
            self.assertEqual(caught.exception.number, number)

    def test_lowest_terms(self):
        for part in range(-12, 13):
            for of in range(1, 13):
                self.assertEqual(lowest_terms(part, of), told(Fraction(part, of)))
                self.assertEqual(fractions_of([part, 0, of], of), (told(Fraction(part, of)), (0, 1), (1, 1)))

    def test_units(self):
        prices = ((1, 4), (5, 6), (0, 1), (3, 1))
        self.assertEqual(common_unit(prices), 12)
        self.assertEqual(in_units(prices, 12), [3, 10, 0, 36])
        self.assertEqual(common_unit(((0, 1), (3, 1))), 1)
