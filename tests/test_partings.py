"""CHANGES: against a slow making of all of them by the words of the document, and what they do at all prices."""

import itertools
import random
import unittest
from fractions import Fraction

from madeofhere.counts import costs, is_of_here
from madeofhere.errors import BadChange, BadGood, BadPrices
from madeofhere.files import File
from madeofhere.goods import highs, lows, need_good
from madeofhere.partings import (
    best_change, changed, changed_prices, changes, harming, helping, helping_prices, making_sure,
)
from madeofhere.portions import least_portion, most_ever, most_sure
from madeofhere.sures import is_sure
from tests.cells import as_told_once, cell_points, point_above, sides, words_at_point, words_of, zero_rows
from tests.drawing import drawn_goods, drawn_prices, goods_at_the_bounds, lively_goods, lonely_goods
from tests.samples import CART, GIFT, LAMP, ODD, TRUCK, Agreeing, Raising, chain, made, ratio, raw, told, wide
from tests.slow import all_things, all_words, many_steps, moving, prices_of_point, slow_forms, with_share

GOODS = [LAMP, TRUCK, CART, GIFT, made([raw(1, 1)]), wide(10), chain(4, raw(1, 2)), made([raw(1, 2)] * 3 + [raw(0, 0)])]
TWO = [(steps, moving) for steps in (1, 2, 3, 4) for moving in (0, 1, 2)]
LIVELY = lively_goods(121, 4, 6, 7, TWO) + lively_goods(122, 1, 12, 9, TWO)
THREE = lively_goods(123, 2, 6, 5, [(1, 3), (2, 3)])
# GOODS of which a little more is asked for than they ever have of here, and such of which just so much is.
TURNING = [with_share(good, min(100, most_ever(good) + 1)) for good in lively_goods(129, 8, 6, 6, TWO)]
TURNING += [with_share(good, most_sure(good)) for good in lively_goods(130, 8, 6, 6, TWO)]
MANY = drawn_goods(124, 2, 9, 10) + goods_at_the_bounds(125, 3) + lively_goods(126, 3, 9, 10) + lonely_goods()
ALL = GOODS + LIVELY + THREE + TURNING + MANY

# Of the first two parts together enough is of here, so that they count whole where they are a step of their own.
MIXED = made([raw(3, 3), raw(1, 1, "away"), raw(4, 9, "away")], 0, 0, "away", (50, "whole", "none"))


def noded(thing, prices):
    """The thing as a list of what it is and of its price, with such lists for its PARTS; the prices are used up."""
    price = prices.pop(0)
    parts = [noded(part, prices) for part in thing[5]] if thing[0] == "made" else []
    return [thing[:5], price, parts]


def plain(node):
    told, _, parts = node
    return told + (tuple(plain(part) for part in parts),) if told[0] == "made" else told


def prices_in(node):
    return [node[1]] + [price for part in node[2] for price in prices_in(part)]


def steps_in(node):
    return [node] * (node[0][0] == "made") + [step for part in node[2] for step in steps_in(part)]


def slow_change(good, change, prices):
    """The thing that comes of a CHANGE, and the list of its prices; None where there is no such STEP or PART."""
    node = noded(good, list(prices))
    word, step, told = change
    if step >= len(steps_in(node)):
        return None
    thing = steps_in(node)[step]
    parts = thing[2]
    if word == "part":
        if max(told) >= len(parts):
            return None
        fresh = [("made", thing[0][1], 0, 0, thing[0][4]), (0, 1), [parts[at] for at in told]]
        left = [at for at in range(len(parts)) if at == min(told) or at not in told]
        thing[2] = [fresh if at == min(told) else parts[at] for at in left]
    else:
        if told >= len(parts) or parts[told][0][0] != "made":
            return None
        gone = parts[told]
        thing[2] = parts[:told] + [[("raw",) + gone[0][1:4], gone[1], []]] + gone[2] + parts[told + 1:]
    return plain(node), prices_in(node)


def is_good(thing):
    """Whether what comes of a CHANGE is a GOOD: it can only be too much."""
    found = all_things(thing)
    made_ones = [one for one in found if one[0] == "made"]
    return len(found) <= 10 and len(made_ones) <= 4 and all(1 <= len(one[5]) <= 4 for one in made_ones)


def candidates():
    joins = [("join", step, part) for step in range(4) for part in range(4)]
    lots = [lot for many in (1, 2, 3, 4) for lot in itertools.combinations(range(4), many)]
    return joins + [("part", step, lot) for step in range(4) for lot in lots]


CANDIDATES = candidates()


def slow_changes(good):
    """A dict of all CHANGES that can be, with the GOOD that comes of each."""
    rows = {}
    for change in CANDIDATES:
        come = slow_change(good, change, lows(good))
        if come is not None and is_good(come[0]):
            rows[change] = come[0]
    return rows


def places(good, change):
    """Of each price that moves its place among those that move behind the CHANGE."""
    numbers = slow_change(good, change, range(len(all_things(good))))[1]
    order = [number for number in numbers if isinstance(number, int) and number in moving(good)]
    return [order.index(number) for number in moving(good)]


def carried(rows, places):
    """Rows of the GOOD that comes of a CHANGE as such of the prices of the one ahead."""
    return [tuple(row[at] for at in places) + row[-1:] for row in rows]


def turned_words(good, change, come):
    """The pairs of the words of STEP 0 without a CHANGE and by it, at points in all cells."""
    at = places(good, change)
    rows = [row for words in all_words(good) for row in slow_forms(good, words)]
    rows += carried([row for words in all_words(come) for row in slow_forms(come, words)], at)
    pairs = set()
    for point in cell_points(as_told_once(rows), sides(good)):
        prices = [ratio(price) for price in prices_of_point(good, [Fraction(price) for price in point])]
        moved = [ratio(price) if isinstance(price, tuple) else price for price in slow_change(good, change, prices)[1]]
        pairs.add((words_at_point(good, point)[0], words_of(come, moved)[0]))
    return pairs


def slow_turn(good, change, come, word):
    """Whether STEP 0 has this word at some prices, and by the CHANGE the other one, by all choices of forms."""
    many = 2 * len(moving(good))
    for words in all_words(good):
        for others in all_words(come):
            if words[0] == word != others[0]:
                rows = slow_forms(good, words) + tuple(carried(slow_forms(come, others)[many:], places(good, change)))
                above = zero_rows(words, many) + zero_rows(others, many + len(words))
                if point_above(rows, above) is not None:
                    return True
    return False


class ChangesTest(unittest.TestCase):
    def test_by_hand(self):
        self.assertEqual(changes(LAMP), (("part", 0, (0,)), ("part", 0, (0, 1)), ("part", 0, (1,))))
        self.assertEqual(changes(TRUCK), (
            ("join", 0, 0), ("part", 0, (0,)), ("part", 0, (0, 1)), ("part", 0, (1,)), ("part", 1, (0,)),
            ("part", 1, (0, 1)),
            ("part", 1, (1,)),
        ))
        # Four STEPS already, so nothing can part; and with PART 1 of STEP 0 gone this would have five PARTS.
        self.assertEqual(changes(CART), (("join", 0, 0), ("join", 2, 2)))
        self.assertEqual(changes(chain(4, raw(1, 2))), (("join", 0, 0), ("join", 1, 0), ("join", 2, 0)))

    def test_those_that_can_not_be(self):
        one, two = made([raw(1, 1)]), made([raw(1, 1), raw(2, 2)])
        # More than four PARTS: three of it, and two more for the one that goes.
        self.assertEqual([change for change in changes(made([two, raw(1, 1), raw(1, 1)])) if change[0] == "join"], [])
        self.assertEqual([change for change in changes(made([two, raw(1, 1)])) if change[0] == "join"],
                         [("join", 0, 0)])
        self.assertEqual([change for change in changes(made([one, one, one])) if change[0] == "join"],
                         [("join", 0, at) for at in range(3)])
        # More than ten THINGS, and more than four STEPS.
        self.assertEqual(changes(made([made([raw(1, 1)] * 4), made([raw(1, 1)] * 3)])), ())
        self.assertEqual([change for change in changes(made([made([raw(1, 1)] * 4), made([raw(1, 1)] * 2)]))
                          if change[0] == "join"], [("join", 0, 1)])
        self.assertEqual(changes(made([one, one, one, raw(1, 1)])), ())

    def test_against_a_slow_making(self):
        none = 0
        for good in ALL:
            expected = slow_changes(good)
            self.assertEqual(changes(good), tuple(sorted(expected)))
            none += not expected
            for change, come in expected.items():
                self.assertEqual(changed(good, change), come)
                self.assertIs(type(need_good(come)), tuple)
        self.assertGreater(none, 3)

    def test_ascending(self):
        for good in ALL:
            rows = changes(good)
            self.assertTrue(all(one < other for one, other in zip(rows, rows[1:])))
            self.assertEqual(rows, tuple(sorted(rows)))


class ChangedTest(unittest.TestCase):
    def test_part_by_hand(self):
        rule = LAMP[4]
        away, here = LAMP[5]
        self.assertEqual(changed(LAMP, ("part", 0, (1,))), made([away, ("made", "here", 0, 0, rule, (here,))], 10, 30))
        self.assertEqual(changed(LAMP, ("part", 0, (0, 1))), made([("made", "here", 0, 0, rule, (away, here))], 10, 30))
        self.assertEqual(changed(TRUCK, ("part", 0, (1,))), made(
            [LAMP, ("made", "away", 0, 0, (60, "own", "own"), (raw(30, 30, "away"),))], 5, 5, "away",
            (60, "own", "own"),
        ))

    def test_parts_apart_come_together_at_the_place_of_the_first(self):
        a, b, c, d = raw(1, 1), raw(2, 2), raw(3, 3), raw(4, 4)
        rule = (70, "own", "own")
        good = made([a, b, c, d], 5, 6, "away", rule)
        for lot, parts in (
            ((1, 3), (a, (b, d), c)), ((0, 2), ((a, c), b, d)), ((0, 3), ((a, d), b, c)), ((2,), (a, b, (c,), d)),
            ((0, 1, 2, 3), ((a, b, c, d),)), ((1, 2, 3), (a, (b, c, d))),
        ):
            parts = [made(part, 0, 0, "away", rule) if isinstance(part[0], tuple) else part for part in parts]
            self.assertEqual(changed(good, ("part", 0, lot)), made(parts, 5, 6, "away", rule))
        self.assertEqual(changed_prices(good, ("part", 0, (1, 3)), ((11, 2), (1, 1), (2, 1), (3, 1), (4, 1))),
                         ((11, 2), (1, 1), (0, 1), (2, 1), (4, 1), (3, 1)))

    def test_join_by_hand(self):
        self.assertEqual(changed(TRUCK, ("join", 0, 0)), made(
            [raw(10, 30), raw(20, 20, "away"), raw(0, 10), raw(30, 30, "away")], 5, 5, "away", (60, "own", "own"),
        ))
        self.assertEqual(changed(CART, ("join", 2, 2)), made([
            CART[5][0], made([raw(3, 5, "away"), raw(4, 4), raw(0, 7), raw(6, 6, "away")], 8, 8, "away"), raw(0, 9),
        ], 11, 11, "here", (40, "own", "own")))
        prices = ((5, 1), (25, 2), (20, 1), (1, 3), (30, 1))
        self.assertEqual(changed_prices(TRUCK, ("join", 0, 0), prices), prices)

    def test_prices_against_a_slow_making(self):
        chance = random.Random(127)
        moved = 0
        for good in ALL:
            bounds = [thing[2:4] for thing in all_things(good)]
            for change in changes(good):
                for prices in lows(good), highs(good), drawn_prices(chance, bounds):
                    come, expected = slow_change(good, change, prices)
                    fresh = changed_prices(good, change, prices)
                    self.assertEqual(fresh, tuple(expected))
                    # They are PRICES of it, and all costs what it did.
                    self.assertEqual(costs(come, fresh)[0], costs(good, prices)[0])
                    self.assertEqual(len(fresh), len(prices) + (change[0] == "part"))
                    moved += change[0] == "part" and fresh[:len(prices)] != prices
        self.assertGreater(moved, 100)

    def test_a_new_thing_costs_nothing_by_itself(self):
        for good in ALL:
            for change in changes(good):
                come = changed(good, change)
                if change[0] == "part":
                    step = [thing for thing in all_things(good) if thing[0] == "made"][change[1]]
                    fresh = [thing for thing in all_things(come) if thing not in all_things(good)]
                    self.assertTrue(any(thing[:5] == ("made", step[1], 0, 0, step[4]) for thing in fresh))
                    self.assertEqual(many_steps(come), many_steps(good) + 1)
                else:
                    self.assertEqual(many_steps(come), many_steps(good) - 1)
                    self.assertEqual(len(all_things(come)), len(all_things(good)))


class RefusedTest(unittest.TestCase):
    CALLS = (
        changed, helping_prices, lambda good, change: changed_prices(good, change, lows(good)),
        lambda good, change: changed_prices(good, change, None),
    )

    def refuse(self, good, change):
        for call in self.CALLS:
            with self.assertRaises(BadChange) as caught:
                call(good, change)
            self.assertIs(caught.exception.value, change)

    def test_what_is_none(self):
        bad = list(ODD) + [
            ("join", 0), ("join", 0, 0, 0), ["join", 0, 0], ("join", "0", 0), ("join", 0, "0"), ("join", True, 0),
            ("join", False, 0), ("join", 0, False), ("join", None, 0), ("join", 0, None), ("join", 0, (0,)),
            ("join", 0, [0]),
            ("join", -1, 0), ("join", 0, -1), ("join", 2, 0), ("join", 10 ** 60, 0), ("join", 0, 10 ** 60),
            ("join", 0, 2),
            ("Join", 0, 0), ("", 0, 0), (None, 0, 0), (b"join", 0, 0), (("join",), 0, 0), ("split", 0, (0,)),
            (Agreeing(), 0, 0), ("join", Agreeing(), 0), ("join", 0, Agreeing()), (Raising(), 0, 0),
            ("join", Raising(), 0),
            ("join", 0, Raising()), ("join", (0,), 0), {"join": 0}, ("join", 0.0, 0), ("part", 0, (0.0,)),
            ("part", 0, 0), ("part", 0, []), ("part", 0, [0]), ("part", 0, ()), ("part", 0, (1, 0)),
            ("part", 0, (0, 0)),
            ("part", 0, (1, 1)), ("part", 0, (-1,)), ("part", 0, (-1, 0)), ("part", 0, (2,)), ("part", 0, (0, 2)),
            ("part", 0, (0, 1, 2)), ("part", 0, (True,)), ("part", 0, (False,)), ("part", 0, (False, 1)),
            ("part", 0, (0, True)),
            ("part", 0, ("0",)), ("part", 0, (None,)), ("part", 0, ((0,),)), ("part", 0, {0: 1}), ("part", 0, "0"),
            ("part", 0, range(1)), ("part", 2, (0,)), ("part", -1, (0,)), ("part", True, (0,)), ("part", "0", (0,)),
            ("part", None, (0,)), ("part", 0, (Agreeing(),)), ("part", 0, (Raising(),)), ("part", 0, Raising()),
            ("part", 0, (0, 1, 0)), ("part", 0, (0,) * 5), ("part", 0), ("part", 0, (0,), 0), ["part", 0, (0,)],
            ("part", 0, None), ("part", 10 ** 60, (0,)), ("part", 0, (10 ** 60,)), ("whole", 0, (0,)), TRUCK,
            File(TRUCK),
        ]
        for change in bad:
            self.refuse(TRUCK, change)

    def test_a_part_is_not_told_from_the_end(self):
        for good in (made([raw(1, 1), LAMP]), made([LAMP]), made([raw(1, 1), made([raw(1, 1), LAMP])])):
            for at in (-1, -2, len(good[5])):
                self.refuse(good, ("join", 0, at))
                self.refuse(good, ("part", 0, (at,)))
            self.refuse(good, ("join", -1, 0))
            self.refuse(good, ("part", -1, (0,)))

    def test_a_join_of_what_is_raw(self):
        self.refuse(TRUCK, ("join", 0, 1))
        self.refuse(LAMP, ("join", 0, 0))
        self.refuse(TRUCK, ("join", 1, 0))

    def test_what_can_not_be(self):
        for good in ALL:
            expected = slow_changes(good)
            for change in CANDIDATES:
                if change not in expected:
                    self.refuse(good, change)

    def test_the_order_of_errors(self):
        bad_good, bad_change, bad_prices = made([raw(2, 1)]), ("join", 0, 1), ((5, 1),) * 4
        for change in (bad_change, ("join", 0, 0), None):
            for prices in (bad_prices, lows(TRUCK), None):
                with self.assertRaises(BadGood) as caught:
                    changed_prices(bad_good, change, prices)
                self.assertEqual((caught.exception.number, caught.exception.part), (1, "high"))
        for call in (changed, helping_prices):
            with self.assertRaises(BadGood):
                call(bad_good, bad_change)
        for prices in (bad_prices, None, Raising()):
            with self.assertRaises(BadChange) as caught:
                changed_prices(TRUCK, bad_change, prices)
            self.assertIs(caught.exception.value, bad_change)
        for prices, number in ((bad_prices, None), (None, None), (lows(TRUCK)[:4] + ((29, 1),), 4), (((1, 0),) * 5, 0)):
            with self.assertRaises(BadPrices) as caught:
                changed_prices(TRUCK, ("join", 0, 0), prices)
            self.assertEqual(caught.exception.number, number)


class TurnedTest(unittest.TestCase):
    def check(self, good, turned):
        """Check what is told of a GOOD, of which turned tells the pairs of words that come by each CHANGE."""
        rows = changes(good)
        expected = {change: turned(change, changed(good, change)) for change in rows}
        self.assertEqual(helping(good), tuple(change for change in rows if (0, 1) in expected[change]))
        self.assertEqual(harming(good), tuple(change for change in rows if (1, 0) in expected[change]))
        for change in rows:
            prices = helping_prices(good, change)
            self.assertEqual(prices is not None, (0, 1) in expected[change])
            if prices is not None:
                self.assertIs(is_of_here(good, prices), False)
                self.assertIs(is_of_here(changed(good, change), changed_prices(good, change, prices)), True)
        return {pair for pairs in expected.values() for pair in pairs}

    def test_by_hand(self):
        self.assertEqual(helping(MIXED), (("part", 0, (0, 1)),))
        self.assertEqual(harming(MIXED), ())
        self.assertEqual(helping_prices(MIXED, ("part", 0, (0, 1))), ((0, 1), (3, 1), (1, 1), (4, 1)))
        self.assertIsNone(helping_prices(MIXED, ("part", 0, (0,))))
        self.assertEqual(making_sure(MIXED), ())
        self.assertEqual(best_change(MIXED), (("part", 0, (0, 1)), (4, 13)))
        joined = changed(MIXED, ("part", 0, (0, 1)))
        self.assertEqual((helping(joined), harming(joined)), ((), (("join", 0, 0),)))
        self.assertEqual(best_change(joined), (None, (4, 13)))

    def test_what_makes_it_sure(self):
        good = made([raw(3, 3), raw(1, 1, "away"), raw(4, 4, "away")], 0, 0, "away", (50, "whole", "none"))
        self.assertEqual(making_sure(good), (("part", 0, (0, 1)),))
        self.assertEqual(making_sure(with_share(good, 51)), ())
        sure = with_share(good, 0)
        self.assertEqual(making_sure(sure), changes(sure))

    def test_against_all_cells(self):
        found = {}
        for good in GOODS[:4] + LIVELY + TURNING:
            for pair in self.check(good, lambda change, come: turned_words(good, change, come)):
                found[pair] = found.get(pair, 0) + 1
        self.assertGreater(min(found[0, 1], found[1, 0]), 10)

    def test_three_that_move_against_all_choices_of_forms(self):
        for good in THREE:
            self.check(good, lambda change, come: {
                (word, 1 - word) for word in (0, 1) if slow_turn(good, change, come, word)
            })

    def test_at_drawn_prices(self):
        chance = random.Random(128)
        for good in MANY:
            bounds = [thing[2:4] for thing in all_things(good)]
            drawn = [lows(good), highs(good)] + [drawn_prices(chance, bounds) for _ in range(5)]
            for change in changes(good):
                come = changed(good, change)
                pairs = {(is_of_here(good, prices), is_of_here(come, changed_prices(good, change, prices)))
                         for prices in drawn}
                self.assertTrue((False, True) not in pairs or change in helping(good))
                self.assertTrue((True, False) not in pairs or change in harming(good))

    def test_prices_that_change_their_turn(self):
        # The PARTS that move come together ahead of one that moves, too: so their turn is another one.
        good = made([raw(0, 3), raw(1, 6, "away"), raw(0, 5)], 0, 0, "away", (60, "whole", "none"))
        self.assertNotEqual(places(good, ("part", 0, (0, 2))), [0, 1, 2])
        self.check(good, lambda change, come: {
            (word, 1 - word) for word in (0, 1) if slow_turn(good, change, come, word)
        })

    def test_making_sure_and_best_change(self):
        better = same = none = 0
        for good in ALL:
            rows = changes(good)
            self.assertEqual(making_sure(good), tuple(change for change in rows if is_sure(changed(good, change))))
            change, fraction = best_change(good)
            without = ratio(least_portion(good)[0])
            portions = [ratio(least_portion(changed(good, one))[0]) for one in rows]
            best = max([without] + portions)
            self.assertEqual(fraction, told(best))
            if best == without:
                self.assertIsNone(change)
                same += best in portions
                none += not rows
            else:
                self.assertEqual(change, rows[portions.index(best)])
                better += 1
        self.assertGreater(min(better, same, none), 3)
