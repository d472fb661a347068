"""What a GOOD is, and what is asked about the THINGS in it."""

import copy
import unittest

from madeofhere.errors import BadGood, MakeError
from madeofhere.goods import highs, lows, moves, need_good, steps, things
from tests.samples import CART, GIFT, LAMP, ODD, TRUCK, Agreeing, Raising, chain, made, raw, wide

FUNCTIONS = (need_good, things, steps, moves, lows, highs)
GOODS = (LAMP, TRUCK, CART, GIFT, made([raw(1, 1)]), wide(10), chain(4, raw(1, 1)))
MOST = 10 ** 6


def put(thing, at, value):
    """A thing with another value at a place in it."""
    return thing[:at] + (value,) + thing[at + 1:]


def holding(first, many=1):
    """A good that is right but for what stands as its THINGS from number 2 on, behind a raw one."""
    return made([raw(1, 1)] + [first] * many)


class Refusing(unittest.TestCase):
    def refuse(self, value, number, part):
        for function in FUNCTIONS:
            with self.assertRaises(BadGood) as caught:
                function(value)
            self.assertEqual((caught.exception.number, caught.exception.part), (number, part))
            self.assertIs(type(caught.exception.number), int)

    def accept(self, value):
        self.assertIs(need_good(value), value)


class NeedGoodTest(Refusing):
    def test_goods_are_returned_themselves(self):
        for good in GOODS:
            self.accept(good)
            self.assertIs(need_good(thing=good), good)

    def test_a_good_is_not_changed(self):
        for good in GOODS:
            before = copy.deepcopy(good)
            for function in FUNCTIONS:
                function(good)
            self.assertEqual(good, before)

    def test_what_is_refused_is_not_changed(self):
        value = made([["raw", "here", 1, 2]])
        self.refuse(value, 1, "form")
        self.assertEqual(value, made([["raw", "here", 1, 2]]))

    def test_bad_good_is_a_make_error(self):
        with self.assertRaises(MakeError):
            need_good(None)

    def test_any_value_at_the_first_thing(self):
        for value in ODD:
            self.refuse(value, 0, "form")

    def test_any_value_deeper(self):
        for value in ODD:
            self.refuse(made([value]), 1, "form")
            self.refuse(holding(value), 2, "form")
            self.refuse(made([made([raw(1, 1), value])]), 3, "form")
            self.refuse(made([made([raw(1, 1)]), value, None]), 3, "form")


class FormTest(Refusing):
    def test_lists_are_no_tuples(self):
        self.refuse(list(LAMP), 0, "form")
        self.refuse(holding(list(raw(1, 1))), 2, "form")

    def test_the_first_word(self):
        for word in ("Raw", "MADE", "", "raw ", "own", None, 0, b"raw", ("raw",), Agreeing(), Raising(), ["made"]):
            self.refuse(put(LAMP, 0, word), 0, "form")
            self.refuse(holding(put(raw(1, 1), 0, word)), 2, "form")

    def test_as_many_things_as_it_has_to_have(self):
        for many in (0, 1, 2, 3, 4, 5):
            self.refuse(LAMP[:many], 0, "form")
        self.refuse(LAMP + (0,), 0, "form")
        for many in (0, 1, 2, 3):
            self.refuse(holding(raw(1, 1)[:many]), 2, "form")
        self.refuse(holding(raw(1, 1) + (0,)), 2, "form")

    def test_raw_with_the_length_of_made_and_the_other_way_round(self):
        self.refuse(put(LAMP, 0, "raw"), 0, "form")
        self.refuse(holding(put(raw(1, 1), 0, "made")), 2, "form")


class LandTest(Refusing):
    def test_here_and_away(self):
        for land in ("here", "away"):
            self.accept(made([raw(1, 1, land)], land=land))

    def test_others(self):
        for land in ODD + ("Here", "away ", "her", "hereaway", ("here",), ["away"]):
            if isinstance(land, str) and land == "here":
                continue
            self.refuse(put(LAMP, 1, land), 0, "land")
            self.refuse(holding(put(raw(1, 1), 1, land)), 2, "land")
            self.refuse(made([LAMP, put(LAMP, 1, land)]), 4, "land")


class LowAndHighTest(Refusing):
    def test_bounds_that_may_be(self):
        for low, high in ((0, MOST), (MOST, MOST), (1, 1), (0, 1), (MOST - 1, MOST)):
            self.accept(holding(raw(low, high)))
            self.accept(made([raw(1, 1)], low, high))

    def test_low_out_of_bounds(self):
        for low in (-1, MOST + 1, -MOST, 10 ** 60, -10 ** 60):
            self.refuse(holding(raw(low, MOST)), 2, "low")
            self.refuse(made([raw(1, 1)], low, MOST), 0, "low")

    def test_high_out_of_bounds(self):
        for high in (-1, MOST + 1, 10 ** 60):
            self.refuse(holding(raw(0, high)), 2, "high")
            self.refuse(made([raw(1, 1)], 0, high), 0, "high")

    def test_high_below_low(self):
        for low, high in ((1, 0), (MOST, MOST - 1), (7, 6)):
            self.refuse(holding(raw(low, high)), 2, "high")
            self.refuse(made([raw(1, 1)], low, high), 0, "high")

    def test_any_value(self):
        for value in ODD + ("0", "1", (1, 1), [1], {1: 1}):
            if isinstance(value, int) and not isinstance(value, bool) and 0 <= value <= MOST:
                continue
            self.refuse(put(LAMP, 2, value), 0, "low")
            self.refuse(put(LAMP, 3, value), 0, "high")
            self.refuse(holding(put(raw(0, 5), 2, value)), 2, "low")
            self.refuse(holding(put(raw(0, 5), 3, value)), 2, "high")

    def test_true_and_false_are_no_integers(self):
        self.refuse(holding(raw(True, 5)), 2, "low")
        self.refuse(holding(raw(False, 5)), 2, "low")
        self.refuse(holding(raw(0, True)), 2, "high")


class RuleTest(Refusing):
    def test_rules_that_may_be(self):
        for share in (0, 1, 50, 99, 100):
            for up in ("whole", "own"):
                for down in ("own", "none"):
                    self.accept(made([raw(1, 1)], rule=(share, up, down)))

    def test_others(self):
        bad = [
            (-1, "whole", "own"), (101, "whole", "own"), (10 ** 60, "own", "own"), (True, "whole", "own"),
            (False, "whole", "own"), ("50", "whole", "own"), (None, "own", "own"), (50, "none", "own"),
            (50, "own", "whole"), (50, "Whole", "own"), (50, "whole", "None"), (50, "whole"), (50, "whole", "own", 1),
            [50, "whole", "own"], ("whole", "own", 50), (50, None, "own"), (50, "own", None), (50, "", "own"),
            (50, Agreeing(), "own"), (50, "own", Agreeing()), (Agreeing(), "own", "own"), (Raising(),) * 3,
        ]
        for rule in bad + list(ODD):
            self.refuse(made([raw(1, 1)], rule=rule), 0, "rule")
            self.refuse(holding(made([raw(1, 1)], rule=rule)), 2, "rule")
            self.refuse(made([LAMP, made([raw(1, 1)], rule=rule)]), 4, "rule")


class PartsTest(Refusing):
    def test_one_to_four(self):
        for many in (1, 2, 3, 4):
            self.accept(made([raw(1, 1)] * many))

    def test_none_and_five(self):
        self.refuse(made([]), 0, "parts")
        self.refuse(made([raw(1, 1)] * 5), 0, "parts")
        self.refuse(holding(made([])), 2, "parts")
        self.refuse(holding(made([raw(1, 1)] * 5)), 2, "parts")

    def test_any_value(self):
        for value in ODD + ([raw(1, 1)], {0: raw(1, 1)}):
            if isinstance(value, tuple) and 1 <= len(value) <= 4:
                continue
            self.refuse(put(LAMP, 5, value), 0, "parts")
            self.refuse(holding(put(LAMP, 5, value)), 2, "parts")

    def test_one_thing_in_the_place_of_parts_is_four_things(self):
        self.refuse(put(LAMP, 5, raw(1, 1)), 1, "form")


class ManyTest(Refusing):
    def test_ten_things_and_eleven(self):
        for many in range(2, 11):
            self.accept(wide(many))
            self.assertEqual(len(things(wide(many))), many)
        for many in (11, 12, 15):
            self.refuse(wide(many), 10, "many")

    def test_the_eleventh_thing_whatever_it_is(self):
        four, three = made([raw(1, 1)] * 4), made([raw(1, 1)] * 3)
        self.accept(made([four, three]))
        self.assertEqual(len(things(made([four, three]))), 10)
        for value in ODD + (raw(1, 1), LAMP, raw(-1, 1), raw(1, 1, "there"), made([])):
            self.refuse(made([four, three, value]), 10, "many")
            self.refuse(made([four, put(three, 5, three[5] + (value,))]), 10, "many")
            self.refuse(made([four, three, value, None]), 10, "many")

    def test_four_that_are_made_and_five(self):
        one = made([raw(1, 1)])
        self.accept(chain(4, raw(1, 1)))
        self.accept(made([one] * 3))
        self.accept(made([made([one, one])]))
        self.refuse(chain(5, raw(1, 1)), 4, "many")
        self.refuse(chain(9, raw(1, 1)), 4, "many")
        self.refuse(made([one] * 4), 7, "many")
        self.refuse(made([one, made([one, one])]), 6, "many")

    def test_the_fifth_that_has_made_first_whatever_else_is_wrong_with_it(self):
        for value in (
            ("made",), ("made", 1), ("made",) * 6, ("made",) * 7, put(LAMP, 1, "there"), put(LAMP, 2, -1),
            put(LAMP, 3, -1), put(LAMP, 4, None), put(LAMP, 5, ()), LAMP + (1,), LAMP[:5], ("made", Raising()),
        ):
            self.refuse(chain(4, value), 4, "many")
            self.refuse(made([made([raw(1, 1)])] * 3 + [value]), 7, "many")

    def test_the_fifth_that_has_something_else_first(self):
        for value in ((), ["made"], ["made", "here", 1, 1, (50, "own", "own"), (raw(1, 1),)], "made", (("made",),)):
            self.refuse(chain(4, value), 4, "form")
        self.refuse(chain(4, raw(1, 1, "made")), 4, "land")
        self.refuse(chain(4, ("raw", "here", 1, 1, (50, "own", "own"), (raw(1, 1),))), 4, "form")


class SeveralWrongTest(Refusing):
    def test_the_order_within_one_thing(self):
        parts = ("cooked", "there", -1, -2, None, ())
        names = ("form", "land", "low", "high", "rule", "parts")
        good = made([raw(1, 1)])
        for first in range(6):
            value = good[:first] + parts[first:]
            self.refuse(value, 0, names[first])
            self.refuse(holding(value), 2, names[first])
            for second in range(first + 1, 6):
                both = put(put(good, first, parts[first]), second, parts[second])
                self.refuse(both, 0, names[first])
                self.refuse(holding(both), 2, names[first])

    def test_the_first_thing_in_the_order_of_numbers(self):
        self.refuse(made([raw(1, 1, "there"), None]), 1, "land")
        self.refuse(made([raw(1, 0), raw(1, 1, "there")]), 1, "high")
        self.refuse(made([LAMP, None, raw(-1, 1)]), 4, "form")
        self.refuse(made([made([raw(1, 1), raw(1, 0)]), None]), 3, "high")
        self.refuse(made([made([raw(1, 1)], rule=()), None]), 1, "rule")

    def test_a_thing_ahead_of_its_parts(self):
        self.refuse(made([None], rule=(101, "own", "own")), 0, "rule")
        self.refuse(made([None] * 5), 0, "parts")
        self.refuse(made([made([None], land="there")]), 1, "land")
        self.refuse(made([made([None] * 5)]), 1, "parts")

    def test_what_is_wrong_ahead_of_many(self):
        four, three = made([raw(1, 1)] * 4), made([raw(1, 1)] * 3)
        self.refuse(made([four, made([raw(1, 1)] * 2 + [raw(2, 1)]), raw(1, 1)]), 9, "high")
        self.refuse(made([four, put(three, 1, "there"), raw(1, 1)]), 6, "land")
        self.refuse(put(chain(5, raw(1, 1)), 4, ()), 0, "rule")
        self.refuse(made([None, made([raw(1, 1)])] + [made([raw(1, 1)])] * 2), 1, "form")

    def test_many_ahead_of_what_is_wrong_behind(self):
        self.refuse(made([made([raw(1, 1)])] * 3 + [made([None])]), 7, "many")
        self.refuse(made([wide(9), None]), 10, "many")

    def test_by_itself_ahead_of_all_together(self):
        self.refuse(("raw", "there", 0, 0), 0, "land")
        self.refuse(raw(2, 1), 0, "high")
        self.refuse(made([raw(0, 1)] * 3 + [raw(0, -1)], 0, 1), 4, "high")
        self.refuse(made([raw(0, 0), None]), 2, "form")
        self.refuse(made([made([raw(0, 1)] * 4), made([raw(0, 1)] * 4)]), 10, "many")

    def test_the_order_of_all_together(self):
        self.refuse(raw(0, 0), 0, "raw")
        self.refuse(raw(0, 1), 0, "raw")
        self.refuse(made([raw(0, 1)] * 4), 0, "moves")


class TogetherTest(Refusing):
    def test_raw(self):
        for land in ("here", "away"):
            self.refuse(raw(1, 1, land), 0, "raw")
            self.refuse(raw(0, MOST, land), 0, "raw")

    def test_three_that_move_and_four(self):
        self.accept(made([raw(1, 2)] * 3 + [raw(1, 1)]))
        self.accept(made([raw(1, 2)] * 2 + [raw(1, 1)], 0, 1))
        self.accept(made([made([raw(1, 2)], 1, 2), raw(0, MOST)], 3, 3))
        self.refuse(made([raw(1, 2)] * 4), 0, "moves")
        self.refuse(made([raw(1, 2)] * 3, 0, 1), 0, "moves")
        self.refuse(made([made([raw(1, 2)], 1, 2), raw(0, MOST)], 3, 4), 0, "moves")

    def test_without_a_low_above_0(self):
        self.refuse(made([raw(0, 0)]), 0, "nothing")
        self.refuse(made([raw(0, MOST)] * 2, 0, 1), 0, "nothing")
        self.refuse(chain(4, raw(0, 1)), 0, "nothing")

    def test_one_low_above_0(self):
        self.accept(made([raw(0, 0)], 1, 1))
        self.accept(made([raw(0, 0), raw(1, 1)]))
        self.accept(chain(4, raw(1, 1)))
        self.accept(made([made([raw(0, 0)], 1, 1), raw(0, 5)]))


class AskedTest(Refusing):
    def test_things_in_the_order_of_their_numbers(self):
        self.assertEqual(things(LAMP), (LAMP, raw(20, 20, "away"), raw(0, 10)))
        self.assertEqual(things(TRUCK), (TRUCK, LAMP, raw(20, 20, "away"), raw(0, 10), raw(30, 30, "away")))
        left, right, last = CART[5]
        inner = right[5][2]
        self.assertEqual(things(CART), (
            CART, left, raw(1, 1), right, raw(3, 5, "away"), raw(4, 4), inner, raw(6, 6, "away"), last,
        ))

    def test_the_same_thing_twice_has_two_numbers(self):
        part = made([raw(1, 1)])
        self.assertEqual(things(made([part, part])), (made([part, part]), part, raw(1, 1), part, raw(1, 1)))

    def test_steps(self):
        self.assertEqual(steps(LAMP), (0,))
        self.assertEqual(steps(TRUCK), (0, 1))
        self.assertEqual(steps(CART), (0, 1, 3, 6))
        self.assertEqual(steps(chain(4, raw(1, 1))), (0, 1, 2, 3))
        self.assertEqual(steps(made([raw(1, 1), LAMP])), (0, 2))

    def test_moves(self):
        self.assertEqual(moves(LAMP), (0, 2))
        self.assertEqual(moves(TRUCK), (1, 3))
        self.assertEqual(moves(CART), (4, 6, 8))
        self.assertEqual(moves(made([raw(1, 1)])), ())
        self.assertEqual(moves(GIFT), (0,))

    def test_lows(self):
        self.assertEqual(lows(LAMP), ((10, 1), (20, 1), (0, 1)))
        self.assertEqual(lows(TRUCK), ((5, 1), (10, 1), (20, 1), (0, 1), (30, 1)))
        self.assertEqual(lows(made([raw(MOST, MOST)])), ((0, 1), (MOST, 1)))

    def test_highs(self):
        self.assertEqual(highs(LAMP), ((30, 1), (20, 1), (10, 1)))
        self.assertEqual(highs(TRUCK), ((5, 1), (30, 1), (20, 1), (10, 1), (30, 1)))
        self.assertEqual(highs(made([raw(0, 0), raw(1, MOST)])), ((0, 1), (0, 1), (MOST, 1)))

    def test_by_the_name_of_the_parameter(self):
        for function in FUNCTIONS[1:]:
            for good in GOODS:
                self.assertEqual(function(good=good), function(good))
            with self.assertRaises(BadGood):
                function(good=None)

    def test_equal_calls_return_equal_results(self):
        for function in FUNCTIONS:
            for good in GOODS:
                self.assertEqual(function(good), function(copy.deepcopy(good)))
                self.assertIs(type(function(good)), tuple)

    def test_numbers_are_integers(self):
        for good in GOODS:
            for number in steps(good) + moves(good) + sum(lows(good) + highs(good), ()):
                self.assertIs(type(number), int)
