"""TURNS, HERE TURNS and MOVES: by hand, and against a slow reckoning at all prices of a LINE where a FORM is 0."""

import random
import unittest
from fractions import Fraction

from madeofhere.counts import is_of_here, words_at
from madeofhere.goods import highs, lows
from madeofhere.turns import here_turns, move_of, turns
from tests.cells import along, all_rows, at_start, turned, words_of
from tests.drawing import drawn_goods, drawn_prices, goods_at_the_bounds, lively_goods, lonely_goods
from tests.samples import CART, GIFT, LAMP, TRUCK, chain, made, ratio, raw, told, wide
from tests.slow import all_things, moving

GOODS = [LAMP, TRUCK, CART, GIFT, made([raw(1, 1)]), wide(10), chain(4, raw(1, 2))] + lonely_goods()
LIVELY = lively_goods(61, 8, 6) + lively_goods(62, 4, 30, 10) + drawn_goods(63, 1, 6)
BOUNDS = goods_at_the_bounds(64, 2) + lively_goods(65, 2, 10 ** 6, 10)
# The part of here and of away counts whole up to a price, and from this very price on that would be enough.
ALONE = [
    made([made([raw(here, here), raw(0, here + more, "away")]), raw(away, away, "away")], 0, 0, "away",
         (share, up, "own"))
    for here in (1, 2, 5) for more in (1, 4) for up in ("whole", "own")
    for share, away in ((50, 2 * here), (25, 6 * here), (20, 8 * here), (40, 3 * here))
]
ALL = GOODS + LIVELY + BOUNDS + ALONE

# All of it is asked to be of here, and it is just where the part from away costs nothing.
STRICT = made([raw(0, 4, "away")], 2, 2, rule=(100, "own", "own"))
# The part counts whole up to 3 from away, and not beyond: there the word of the GOOD goes the other way.
FALLING = made([made([raw(3, 3), raw(1, 5, "away")])], 1, 1, "away", (80, "own", "own"))


def put(row, at, value):
    return row[:at] + (value,) + row[at + 1:]


def slow_line(good, prices, number):
    """Rows of a price, the WORDS at it, and those in the middle behind it, at all prices where some FORM is 0."""
    amounts = [ratio(price) for price in prices]
    low, high = all_things(good)[number][2:4]
    points = [Fraction(low)]
    if number in moving(good):
        at = moving(good).index(number)
        others = [amounts[one] for one in moving(good) if one != number]
        points = along(at_start([turned(row, at) for row in all_rows(good)], others), low, high)
    words = [words_of(good, put(tuple(amounts), number, point)) for point in points]
    # Every other one of the points is a middle.
    behind = words[1::2] + [None]
    return list(zip(points[::2], words[::2], behind))


def slow_turns(rows):
    kept = [rows[0]]
    ahead = rows[0][2]
    for price, at, behind in rows[1:]:
        if at != ahead or (behind is not None and behind != ahead):
            kept.append((price, at, behind))
        ahead = behind
    return tuple((told(price), at, behind) for price, at, behind in kept)


def of_step_0(rows):
    return [(price, at[0], None if behind is None else behind[0]) for price, at, behind in rows]


def slow_move(rows, price, word):
    """The nearest of the prices with the other word, and of the ends of all that lies between two of them."""
    ways = []
    for k, (one, at, behind) in enumerate(of_step_0(rows)):
        if at != word:
            ways.append((abs(one - price), 0))
        if behind is not None and behind != word:
            ways += [(abs(end - price), 1) for end in (one, rows[k + 1][0])]
    if not ways:
        return None
    least, missed = min(ways)
    return told(least), 1 - missed


class LineTest(unittest.TestCase):
    def check(self, good, prices, number):
        rows = slow_line(good, prices, number)
        expected = slow_turns(rows)
        self.assertEqual(turns(good, prices, number), expected)
        self.assertEqual(here_turns(good, prices, number), slow_turns(of_step_0(rows)))
        self.assertEqual(move_of(good, prices, number), slow_move(rows, ratio(prices[number]), self.word(good, prices)))
        return expected

    def word(self, good, prices):
        return words_of(good, [ratio(price) for price in prices])[0]

    def each(self, seed, goods=ALL):
        """Goods with prices, and with the numbers of all THINGS in them."""
        chance = random.Random(seed)
        for good in goods:
            bounds = [thing[2:4] for thing in all_things(good)]
            for prices in lows(good), highs(good), drawn_prices(chance, bounds), drawn_prices(chance, bounds):
                for number in range(len(bounds)):
                    yield good, prices, number


class TurnsTest(LineTest):
    def test_by_hand(self):
        # Of the work and the part together 20 are needed.
        prices = lows(LAMP)
        self.assertEqual(turns(LAMP, prices, 0), (((10, 1), (0,), (0,)), ((20, 1), (1,), (1,))))
        self.assertEqual(here_turns(LAMP, prices, 0), (((10, 1), 0, 0), ((20, 1), 1, 1)))
        self.assertEqual(turns(LAMP, prices, 1), (((20, 1), (0,), None),))
        self.assertEqual(here_turns(LAMP, prices, 1), (((20, 1), 0, None),))

    def test_a_turn_at_high_has_nothing_behind_it(self):
        prices = lows(LAMP)
        self.assertEqual(turns(LAMP, prices, 2), (((0, 1), (0,), (0,)), ((10, 1), (1,), None)))
        self.assertEqual(here_turns(LAMP, prices, 2), (((0, 1), 0, 0), ((10, 1), 1, None)))

    def test_of_the_last_turn_up_to_high(self):
        self.assertEqual(turns(LAMP, highs(LAMP), 0), (((10, 1), (1,), (1,)),))
        self.assertEqual(turns(LAMP, highs(LAMP), 2), (((0, 1), (1,), (1,)),))

    def test_words_at_the_first_price_alone(self):
        self.assertEqual(turns(STRICT, lows(STRICT), 1), (((0, 1), (1,), (0,)),))
        self.assertEqual(here_turns(STRICT, highs(STRICT), 1), (((0, 1), 1, 0),))

    def test_a_word_of_a_part_turns_that_of_the_good(self):
        # 4 of 5 count at 1, up to 6 of 7 at 3; beyond 3 nothing of the part counts.
        self.assertEqual(turns(FALLING, lows(FALLING), 3), (((1, 1), (1, 1), (1, 1)), ((3, 1), (1, 1), (0, 0))))
        self.assertEqual(here_turns(FALLING, lows(FALLING), 3), (((1, 1), 1, 1), ((3, 1), 1, 0)))
        # In the TRUCK the LAMP turns at 20, and with 10 for the part within it at 10 already, and the TRUCK at 45/2.
        self.assertEqual(turns(TRUCK, lows(TRUCK), 1), (((10, 1), (0, 0), (0, 0)), ((20, 1), (0, 1), (0, 1))))
        self.assertEqual(turns(TRUCK, highs(TRUCK), 1), (((10, 1), (0, 1), (0, 1)), ((45, 2), (1, 1), (1, 1))))
        self.assertEqual(turns(TRUCK, put(lows(TRUCK), 3, (15, 2)), 1), (
            ((10, 1), (0, 0), (0, 0)), ((25, 2), (0, 1), (0, 1)), ((25, 1), (1, 1), (1, 1)),
        ))

    def test_words_that_stand_at_one_price_alone(self):
        # The part of 3 from here and a from away is of here up to a = 3, and nothing of it counts beyond. With 6 more
        # from away 3 + a have to be 6: so all of it is of here at a = 3 alone.
        good = made([made([raw(3, 3), raw(0, 6, "away")]), raw(6, 6, "away")], 0, 0, "away", (50, "own", "own"))
        self.assertEqual(turns(good, lows(good), 3), (
            ((0, 1), (0, 1), (0, 1)), ((3, 1), (1, 1), (0, 0)),
        ))
        self.assertEqual(here_turns(good, lows(good), 3), (((0, 1), 0, 0), ((3, 1), 1, 0)))
        self.assertEqual(move_of(good, lows(good), 3), ((3, 1), 1))
        self.assertEqual(move_of(good, highs(good), 3), ((3, 1), 1))

    def test_against_slow_line(self):
        alone = middle = long = 0
        for good, prices, number in self.each(66):
            rows = self.check(good, prices, number)
            long += len(rows) > 2
            ahead = None
            for _, at, behind in rows:
                alone += ahead not in (None, at) and behind not in (None, at)
                middle += ahead is not None and at == ahead != behind
                ahead = behind
        self.assertGreater(alone, 20)
        self.assertGreater(middle, 50)
        self.assertGreater(long, 50)

    def test_ascending_as_numbers_from_low_on(self):
        unlike = 0
        for good, prices, number in self.each(67):
            low, high = all_things(good)[number][2:4]
            for function in (turns, here_turns):
                rows = function(good, prices, number)
                numbers = [ratio(row[0]) for row in rows]
                self.assertEqual((rows[0][0], numbers), ((low, 1), sorted(set(numbers))))
                self.assertLessEqual(numbers[-1], high)
                for fraction, _, behind in rows:
                    self.assertEqual(fraction, told(ratio(fraction)))
                    self.assertEqual(behind is None, fraction == (high, 1))
                unlike += [row[0] for row in rows] != sorted(row[0] for row in rows)
        self.assertGreater(unlike, 5)

    def test_the_words_are_those_of_the_good_at_and_behind_each_turn(self):
        for good, prices, number in self.each(68, GOODS + BOUNDS):
            rows = turns(good, prices, number)
            ends = [ratio(row[0]) for row in rows[1:]] + [Fraction(all_things(good)[number][3])]
            for (fraction, at, behind), end in zip(rows, ends):
                self.assertEqual(words_at(good, put(prices, number, fraction)), at)
                if behind is not None:
                    way = end - ratio(fraction)
                    for part in (Fraction(1, 10 ** 9), Fraction(1, 2), 1 - Fraction(1, 10 ** 9)):
                        price = told(ratio(fraction) + way * part)
                        self.assertEqual(words_at(good, put(prices, number, price)), behind)
            if rows[-1][2] is not None:
                high = (all_things(good)[number][3], 1)
                self.assertEqual(words_at(good, put(prices, number, high)), rows[-1][2])

    def test_nothing_is_told_at_which_nothing_turns(self):
        for good, prices, number in self.each(69):
            for function in (turns, here_turns):
                rows = function(good, prices, number)
                for (_, _, ahead), (_, at, behind) in zip(rows, rows[1:]):
                    self.assertTrue(at != ahead or behind not in (None, ahead))

    def test_the_price_that_the_thing_has_does_not_matter(self):
        for good, prices, number in self.each(70, GOODS + LIVELY[::2]):
            for function in (turns, here_turns):
                expected = function(good, prices, number)
                for other in lows(good), highs(good):
                    self.assertEqual(function(good, put(prices, number, other[number]), number), expected)

    def test_what_does_not_move(self):
        for good, prices, number in self.each(71):
            low, high = all_things(good)[number][2:4]
            if low == high:
                words = words_at(good, prices)
                self.assertEqual(turns(good, prices, number), (((low, 1), words, None),))
                self.assertEqual(here_turns(good, prices, number), (((low, 1), words[0], None),))
                self.assertIsNone(move_of(good, prices, number))

    def test_prices_with_sixty_figures(self):
        of = 10 ** 59
        prices = ((10, 1), (20, 1), (1, of))
        self.assertEqual(here_turns(LAMP, prices, 0), (((10, 1), 0, 0), ((20 * of - 1, of), 1, 1)))
        self.assertEqual(move_of(LAMP, prices, 0), ((10 * of - 1, of), 1))


class MoveTest(LineTest):
    def test_by_hand(self):
        self.assertEqual(move_of(LAMP, lows(LAMP), 0), ((10, 1), 1))
        self.assertEqual(move_of(LAMP, lows(LAMP), 2), ((10, 1), 1))
        self.assertIsNone(move_of(LAMP, lows(LAMP), 1))
        # Down to 20 it is of here, and only below 20 it is not.
        self.assertEqual(move_of(LAMP, ((30, 1), (20, 1), (0, 1)), 0), ((10, 1), 0))
        self.assertEqual(move_of(LAMP, ((41, 2), (20, 1), (0, 1)), 0), ((1, 2), 0))
        self.assertIsNone(move_of(LAMP, highs(LAMP), 0))

    def test_at_the_very_price_where_it_turns(self):
        self.assertEqual(move_of(LAMP, ((20, 1), (20, 1), (0, 1)), 0), ((0, 1), 0))
        self.assertEqual(move_of(STRICT, lows(STRICT), 1), ((0, 1), 0))
        self.assertEqual(move_of(FALLING, put(lows(FALLING), 3, (3, 1)), 3), ((0, 1), 0))

    def test_a_price_that_stands_alone(self):
        self.assertEqual(move_of(STRICT, highs(STRICT), 1), ((4, 1), 1))
        self.assertEqual(move_of(STRICT, ((2, 1), (1, 3)), 1), ((1, 3), 1))

    def test_to_both_sides(self):
        good, number = self.between()
        self.assertEqual(here_turns(good, lows(good), number), (((0, 1), 0, 0), ((2, 1), 1, 1), ((6, 1), 1, 0)))
        for price, expected in (
            ((0, 1), ((2, 1), 1)), ((1, 1), ((1, 1), 1)), ((2, 1), ((0, 1), 0)), ((3, 1), ((1, 1), 0)),
            ((4, 1), ((2, 1), 0)), ((5, 1), ((1, 1), 0)), ((6, 1), ((0, 1), 0)), ((7, 1), ((1, 1), 1)),
            ((9, 1), ((3, 1), 1)), ((15, 4), ((7, 4), 0)),
        ):
            self.assertEqual(move_of(good, put(lows(good), number, price), number), expected)

    def between(self):
        """A GOOD, and the number of a THING by which it is of here from 2 to 6."""
        # The part of 6 from here and a from away counts whole up to a = 6; and 6 + a have to be 8.
        inner = made([raw(6, 6), raw(0, 9, "away")], 0, 0, "away", (50, "whole", "none"))
        return made([inner, raw(8, 8, "away")], 0, 0, "away", (50, "own", "own")), 3

    def test_both_sides_as_far_and_one_of_them_reached(self):
        found = 0
        for good, prices, number in self.each(72, LIVELY):
            rows = slow_line(good, prices, number)
            numbers = [row[0] for row in rows]
            for price in [(one + other) / 2 for one, other in zip(numbers, numbers[2:])] + numbers:
                at = put(prices, number, told(price))
                word = self.word(good, at)
                self.assertEqual(move_of(good, at, number), slow_move(rows, price, word))
                found += self.is_both(rows, price, word)
        self.assertGreater(found, 5)

    def is_both(self, rows, price, word):
        """Whether the other word is as near ahead of a price as behind it, and reached on one side alone."""
        near = slow_move(rows, price, word)
        if near is None or near[0] == (0, 1):
            return False
        least = ratio(near[0])
        sides = [[row for row in of_step_0(rows) if row[0] == price + way] for way in (-least, least)]
        return all(sides) and {sides[0][0][1] != word, sides[1][0][1] != word} == {True, False}

    def test_what_it_tells_is_so(self):
        for good, prices, number in self.each(73):
            move = move_of(good, prices, number)
            low, high = all_things(good)[number][2:4]
            price, here = ratio(prices[number]), is_of_here(good, prices)
            if move is None:
                for other in (low, high):
                    self.assertIs(is_of_here(good, put(prices, number, (other, 1))), here)
                continue
            least = ratio(move[0])
            words = [self.here_at(good, prices, number, price + way) for way in (-least, least)]
            self.assertEqual(move[1], int((not here) in words))
            # Just beyond it there is the other word, and nearer there is not.
            if move[1] == 0:
                less = Fraction(1, 10 ** 30)
                words = [self.here_at(good, prices, number, price + way) for way in (-least - less, least + less)]
                self.assertIn(not here, words)
            for part in (Fraction(1, 2), 1 - Fraction(1, 10 ** 9)):
                words = [self.here_at(good, prices, number, price + way * part) for way in (-least, least)]
                self.assertNotIn(not here, words)

    def here_at(self, good, prices, number, price):
        """Whether it is of here where the THING has a price, or None beyond its bounds."""
        low, high = all_things(good)[number][2:4]
        return is_of_here(good, put(prices, number, told(price))) if low <= price <= high else None

    def test_none_is_told_just_if_the_here_turns_have_one_word(self):
        for good, prices, number in self.each(74):
            words = {word for row in here_turns(good, prices, number) for word in row[1:]} - {None}
            self.assertEqual(move_of(good, prices, number) is None, len(words) == 1)
