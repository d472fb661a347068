"""What a FRACTION is, and how prices are brought to one unit."""

import unittest
from fractions import Fraction

from madeofhere.money import common_unit, in_units, is_fraction, lowest_terms
from tests.samples import ODD, told


class MoneyTest(unittest.TestCase):
    def test_fractions(self):
        for value in ((0, 1), (1, 1), (1, 2), (-1, 2), (7, 3), (10 ** 60 + 1, 10 ** 60), (-5, 1)):
            self.assertIs(is_fraction(value), True)

    def test_what_is_none(self):
        for value in ODD + (
            (0, 0), (1, 0), (-1, 0), (0, 2), (2, 2), (4, 6), (1, -1), (-1, -1), (0, -1), (True, 1), (1, True),
            (1, 2, 3), [1, 2], ("1", 2), (1, None), (1,),
        ):
            self.assertIs(is_fraction(value), False)

    def test_lowest_terms(self):
        for part in range(-12, 13):
            for of in range(1, 13):
                self.assertEqual(lowest_terms(part, of), told(Fraction(part, of)))

    def test_units(self):
        prices = ((1, 4), (5, 6), (0, 1), (3, 1))
        self.assertEqual(common_unit(prices), 12)
        self.assertEqual(in_units(prices, 12), [3, 10, 0, 36])
        self.assertEqual(common_unit(((0, 1), (3, 1))), 1)
