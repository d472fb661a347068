"""MENUS, their LOTS, and what tells their GOODS from one another."""

import itertools
import random
import unittest

from madeofhere.beside import are_alike
from madeofhere.counts import is_of_here
from madeofhere.errors import BadMenu, BadPrices, BadSeen
from madeofhere.files import File
from madeofhere.goods import highs, lows
from madeofhere.menus import fitting_goods, here_by, lots, need_menu, telling_prices
from tests.cells import points_of, words_at_point, words_of
from tests.drawing import drawn_prices, drawn_twin, goods_at_the_bounds, lively_goods, rebuilt_twin
from tests.samples import CART, GIFT, LAMP, ODD, TRUCK, Agreeing, Raising, made, raw, ratio, wide
from tests.slow import all_things, prices_of_point, with_share

TWO = [(steps, moving) for steps in (1, 2, 3, 4) for moving in (0, 1, 2)]


def drawn_menus(seed, goods):
    """MENUS of one to three GOODS: some of them drawn TWINS, some of which other THINGS are made, some the same."""
    chance = random.Random(seed)
    rows = []
    for good in goods:
        menu = [good]
        for _ in range(chance.choice((0, 1, 2, 2, 2))):
            one = chance.choice(menu)
            kind = chance.choice(("twin", "twin", "few", "rebuilt", "same", "share"))
            menu.append({
                "twin": lambda: drawn_twin(chance, one), "few": lambda: drawn_twin(chance, one, 0.1),
                "rebuilt": lambda: rebuilt_twin(chance, one), "same": lambda: one,
                "share": lambda: with_share(one, min(100, one[4][0] + 1)),
            }[kind]())
        chance.shuffle(menu)
        rows.append(tuple(menu))
    return rows


MENUS = drawn_menus(131, lively_goods(132, 8, 6, 7, TWO))
WIDE = drawn_menus(133, lively_goods(134, 3, 9, 9) + goods_at_the_bounds(135, 1))
FEW, MIDDLE, MUCH = with_share(LAMP, 40), with_share(LAMP, 50), with_share(LAMP, 60)
# Never of here, as is the last one.
NEVER, NO = with_share(LAMP, 67), with_share(LAMP, 100)
SHARES = (FEW, MIDDLE, MUCH)
FIXED = [(LAMP,), (LAMP, LAMP), (LAMP, LAMP, LAMP), SHARES, SHARES[::-1], (NEVER, NO, LAMP), (NEVER, LAMP, NO),
         (LAMP, NEVER, NO), (NO, NEVER), (TRUCK, with_share(TRUCK, 0), TRUCK), (GIFT, GIFT), (wide(10),)]
ALL = MENUS + WIDE + FIXED


def slow_lots(menu):
    """The LOTS of a MENU, by the words at points in all cells."""
    points = points_of(*menu)
    rows = [tuple(words_at_point(good, point)[0] for point in points) for good in menu]
    return tuple(tuple(at for at, other in enumerate(rows) if other == row)
                 for number, row in enumerate(rows) if row not in rows[:number])


class NeedMenuTest(unittest.TestCase):
    CALLS = (
        need_menu, lots, telling_prices, lambda menu: fitting_goods(menu, ()), lambda menu: fitting_goods(menu, None),
        lambda menu: here_by(menu, lows(LAMP)), lambda menu: here_by(menu, None),
    )

    def refuse(self, menu, number):
        for call in self.CALLS:
            with self.assertRaises(BadMenu) as caught:
                call(menu)
            self.assertEqual(caught.exception.number, number)
            self.assertIn(type(caught.exception.number), (int, type(None)))

    def test_itself(self):
        for menu in ALL:
            self.assertIs(need_menu(menu), menu)
            self.assertIs(need_menu(thing=menu), menu)

    def test_what_is_no_tuple_of_one_to_three_things(self):
        for value in [value for value in ODD if not (isinstance(value, tuple) and 1 <= len(value) <= 3)] + [
            (), [LAMP], [LAMP, LAMP], (LAMP,) * 4, (None,) * 4, {0: LAMP}, LAMP, TRUCK, File(LAMP), "abc",
            iter((LAMP,)),
        ]:
            self.refuse(value, None)

    def test_the_first_that_is_no_good(self):
        bad = list(ODD) + [list(LAMP), raw(1, 1), made([raw(0, 0)]), made([raw(2, 1)]), wide(11), File(LAMP), (LAMP,)]
        for value in bad:
            self.refuse((value,), 0)
            self.refuse((value, LAMP, value), 0)
            self.refuse((LAMP, value), 1)
            self.refuse((LAMP, value, value), 1)
            self.refuse((LAMP, LAMP, value), 2)

    def test_the_first_that_is_no_twin_of_the_first_one(self):
        other = made([raw(20, 20), raw(0, 11)], 10, 30)
        more = made([raw(20, 20), raw(0, 10), raw(0, 0)], 10, 30)
        for one in (other, more, TRUCK, CART):
            self.refuse((LAMP, one), 1)
            self.refuse((one, LAMP, LAMP), 1)
            self.refuse((LAMP, LAMP, one), 2)
            self.refuse((LAMP, one, LAMP), 1)
            self.refuse((LAMP, one, None), 1)
            self.refuse((LAMP, None, one), 1)
            self.refuse((None, one, LAMP), 0)

    def test_things_that_are_three_signs(self):
        self.refuse(("a", "b", "c"), 0)
        self.refuse((1,), 0)


class LotsTest(unittest.TestCase):
    def test_by_hand(self):
        for menu, told in (
            ((LAMP,), ((0,),)), ((LAMP, LAMP), ((0, 1),)), ((LAMP,) * 3, ((0, 1, 2),)), (SHARES, ((0,), (1,), (2,))),
            ((NEVER, NO, LAMP), ((0, 1), (2,))), ((NEVER, LAMP, NO), ((0, 2), (1,))),
            ((LAMP, NEVER, NO), ((0,), (1, 2))),
            ((NO, NEVER), ((0, 1),)), ((NO, LAMP), ((0,), (1,))),
        ):
            self.assertEqual(lots(menu), told)

    def test_against_all_cells(self):
        many = {}
        for menu in MENUS + FIXED:
            expected = slow_lots(menu)
            self.assertEqual(lots(menu), expected)
            many[len(menu), len(expected)] = many.get((len(menu), len(expected)), 0) + 1
        for kind in ((1, 1), (2, 1), (2, 2), (3, 1), (3, 2), (3, 3)):
            self.assertGreater(many[kind], 2)

    def test_ascending_and_all_numbers_once(self):
        for menu in ALL:
            rows = lots(menu)
            self.assertEqual(rows, tuple(sorted(tuple(sorted(lot)) for lot in rows)))
            self.assertEqual(sorted(sum(rows, ())), list(range(len(menu))))
            for one, other in itertools.combinations(range(len(menu)), 2):
                together = any(one in lot and other in lot for lot in rows)
                self.assertIs(are_alike(menu[one], menu[other]), together)


class HereByTest(unittest.TestCase):
    def test_by_hand(self):
        self.assertEqual(here_by(SHARES, lows(LAMP)), ())
        self.assertEqual(here_by(SHARES, ((20, 1), (20, 1), (0, 1))), (0, 1))
        self.assertEqual(here_by(SHARES, highs(LAMP)), (0, 1, 2))
        self.assertEqual(here_by((MUCH, NEVER, FEW), ((20, 1), (20, 1), (0, 1))), (2,))

    def test_at_drawn_prices(self):
        chance = random.Random(136)
        for menu in ALL:
            bounds = [thing[2:4] for thing in all_things(menu[0])]
            for prices in lows(menu[0]), highs(menu[0]), drawn_prices(chance, bounds), drawn_prices(chance, bounds):
                amounts = [ratio(price) for price in prices]
                expected = tuple(number for number, good in enumerate(menu) if words_of(good, amounts)[0] == 1)
                self.assertEqual(here_by(menu, prices), expected)

    def test_what_are_no_prices(self):
        for value in ODD + (lows(TRUCK), list(lows(LAMP)), ()):
            with self.assertRaises(BadPrices) as caught:
                here_by(SHARES, value)
            self.assertIsNone(caught.exception.number)
        for number in range(3):
            for value in ((31, 1), (20, 2), (1, 0), None, [20, 1], (True, 1), Raising(), Agreeing()):
                prices = lows(LAMP)[:number] + (value,) + (None,) * (2 - number)
                with self.assertRaises(BadPrices) as caught:
                    here_by(SHARES, prices)
                self.assertEqual(caught.exception.number, number)


class FittingTest(unittest.TestCase):
    def test_by_hand(self):
        low, middle, high = lows(LAMP), ((20, 1), (20, 1), (0, 1)), highs(LAMP)
        between = ((40, 3), (20, 1), (0, 1))
        for seen, told in (
            ((), (0, 1, 2)), (((low, 0),), (0, 1, 2)), (((low, 1),), ()), (((middle, 1),), (0, 1)),
            (((middle, 0),), (2,)),
            (((high, 1), (middle, 0)), (2,)), (((middle, 1), (middle, 0)), ()), (((high, 1),) * 40, (0, 1, 2)),
            (((between, 1), (middle, 1)), (0,)), (((high, 0), (low, 1)), ()),
        ):
            self.assertEqual(fitting_goods(SHARES, seen), told)

    def test_drawn_things_that_were_seen(self):
        chance = random.Random(137)
        sizes = {}
        for menu in ALL:
            bounds = [thing[2:4] for thing in all_things(menu[0])]
            for many in (0, 1, 2, 3, 40):
                truth = chance.choice(menu)
                drawn = [drawn_prices(chance, bounds) for _ in range(many)]
                seen = [(prices, int(is_of_here(truth, prices))) for prices in drawn]
                if seen and chance.random() < 0.3:
                    at = chance.randrange(many)
                    seen[at] = (seen[at][0], 1 - seen[at][1])
                expected = tuple(
                    number for number, good in enumerate(menu)
                    if all(words_of(good, [ratio(price) for price in prices])[0] == word for prices, word in seen)
                )
                self.assertEqual(fitting_goods(menu, tuple(seen)), expected)
                sizes[len(expected)] = sizes.get(len(expected), 0) + 1
        self.assertGreater(min(sizes[many] for many in range(4)), 5)

    def test_what_is_no_tuple_of_at_most_forty_things(self):
        pair = (lows(LAMP), 1)
        for value in [value for value in ODD if not isinstance(value, tuple)] + [
            [pair], [], {0: pair}, (pair,) * 41, (None,) * 41, "abc", iter((pair,)), File(LAMP),
        ]:
            for menu in ((LAMP,), SHARES):
                with self.assertRaises(BadSeen) as caught:
                    fitting_goods(menu, value)
                self.assertIsNone(caught.exception.number)

    def test_the_first_that_is_no_such_pair(self):
        low, high = lows(LAMP), highs(LAMP)
        bad = list(ODD) + [
            (low,), (low, 1, 1), [low, 1], (low, True), (low, False), (low, 2), (low, -1), (low, "1"), (low, None),
            (low, (1,)), (low, 1.0), (low, Agreeing()), (low, Raising()), (1, low), (list(low), 1), (low[:2], 1),
            (low + low, 0), (None, 1), (((31, 1), (20, 1), (0, 1)), 1), (((20, 2), (20, 1), (0, 1)), 0), (Raising(), 1),
            ((None,) * 3, 1), (low, low), {low: 1}, File(LAMP), (lows(TRUCK), 0), (((True, 1), (20, 1), (0, 1)), 1),
        ]
        for value in bad:
            for ahead in (0, 1, 3, 39):
                for behind in (0, 1):
                    seen = ((high, 1),) * ahead + (value,) + (None,) * (behind if ahead < 39 else 0)
                    with self.assertRaises(BadSeen) as caught:
                        fitting_goods(SHARES, seen)
                    self.assertEqual(caught.exception.number, ahead)
                    self.assertIs(type(caught.exception.number), int)

    def test_it_is_refused_also_where_nothing_fits_any_more(self):
        low = lows(LAMP)
        with self.assertRaises(BadSeen) as caught:
            fitting_goods(SHARES, ((low, 1), (low, 0), (low, 2)))
        self.assertEqual(caught.exception.number, 2)


class TellingTest(unittest.TestCase):
    def check(self, menu):
        rows = telling_prices(menu)
        self.assertIs(type(rows), tuple)
        self.assertEqual(len(rows), len(lots(menu)) - 1)
        for one, other in itertools.combinations(menu, 2):
            parted = [is_of_here(one, prices) != is_of_here(other, prices) for prices in rows]
            self.assertIs(any(parted), not are_alike(one, other))
        return rows

    def test_by_hand(self):
        for menu, many in (
            ((LAMP,), 0), ((LAMP,) * 2, 0), ((LAMP,) * 3, 0), ((NO, NEVER), 0), ((NO, LAMP), 1), ((NO, LAMP, NEVER), 1),
            ((LAMP, NO, NEVER), 1), ((NO, NEVER, LAMP), 1), ((FEW, MUCH), 1), (SHARES, 2),
        ):
            for turned in itertools.permutations(menu):
                self.assertEqual(len(self.check(turned)), many)
        self.assertEqual(telling_prices((LAMP,)), ())

    def test_as_few_as_can_be(self):
        # One is enough just where no three are unlike: by one alone they fall into those of here, and those not.
        many = {}
        for menu in ALL:
            rows = self.check(menu)
            many[len(menu), len(rows)] = many.get((len(menu), len(rows)), 0) + 1
        for kind in ((1, 0), (2, 0), (2, 1), (3, 0), (3, 1), (3, 2)):
            self.assertGreater(many[kind], 2)

    def test_no_single_one_parts_three_goods(self):
        for menu in [menu for menu in MENUS if len(telling_prices(menu)) == 2][:10]:
            for point in points_of(*menu):
                prices = prices_of_point(menu[0], [ratio((price, 1)) for price in point])
                self.assertLess(len({is_of_here(good, prices) for good in menu}), 3)

    def test_goods_at_the_bounds(self):
        for good in goods_at_the_bounds(138, 2):
            for menu in drawn_menus(139, [good] * 3):
                self.check(menu)
