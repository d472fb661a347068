"""Whether a GOOD is surely or never of here, the WEIGHTS that bar WORDS, and the papers."""

import random
import unittest

from madeofhere.counts import is_of_here
from madeofhere.errors import BadPaper
from madeofhere.files import File
from madeofhere.goods import highs, lows, moves
from madeofhere.outlines import Outline
from madeofhere.pieces import coming, corners, forms
from madeofhere.sheets import Sheet
from madeofhere.sures import check_sure, do_bar, is_never, is_sure, sure_paper, weights_for
from tests.drawing import drawn_goods, drawn_prices, goods_at_the_bounds, lonely_goods
from tests.samples import CART, GIFT, LAMP, ODD, TRUCK, Agreeing, Raising, chain, made, raw, wide
from tests.slow import all_things, all_words, slow_coming, slow_do_bar, with_share

GOODS = [LAMP, TRUCK, CART, GIFT, made([raw(1, 1)]), wide(10), chain(4, raw(1, 2))] + lonely_goods()
DRAWN = drawn_goods(31, 6, 6) + drawn_goods(32, 2, 3, 10) + drawn_goods(33, 2, 10 ** 6, 10)
BOUNDS = goods_at_the_bounds(34, 3)
ALL = GOODS + DRAWN + BOUNDS

# Surely of here with 33 of 100, just so at all LOW: 10 of 30; with 34 it is not.
SURE_LAMP = with_share(LAMP, 33)
# Surely of here, as nothing is asked for, whether the LAMP within it is or not.
SURE_TRUCK = with_share(TRUCK, 0)
# At most 3 of 15 are of here, and 90 of 100 would have to be.
NEVER = made([raw(1, 3), raw(10, 10, "away")], 2, 2, "away", (90, "whole", "own"))


class SureTest(unittest.TestCase):
    def test_by_hand(self):
        for good, sure, never in (
            (LAMP, False, False), (SURE_LAMP, True, False), (with_share(LAMP, 34), False, False),
            (with_share(LAMP, 66), False, False), (with_share(LAMP, 67), False, True), (NEVER, False, True),
            (TRUCK, False, False), (SURE_TRUCK, True, False), (GIFT, False, False), (made([raw(1, 1)]), True, False),
        ):
            self.assertIs(is_sure(good), sure)
            self.assertIs(is_never(good), never)

    def test_against_slow_coming(self):
        for good in ALL:
            first = {words[0] for words in slow_coming(good)}
            self.assertIs(is_sure(good), first == {1})
            self.assertIs(is_never(good), first == {0})

    def test_at_drawn_prices(self):
        chance = random.Random(35)
        for good in ALL:
            bounds = [thing[2:4] for thing in all_things(good)]
            for prices in [lows(good), highs(good)] + [drawn_prices(chance, bounds) for _ in range(4)]:
                if is_sure(good):
                    self.assertIs(is_of_here(good, prices), True)
                if is_never(good):
                    self.assertIs(is_of_here(good, prices), False)


class BarTest(unittest.TestCase):
    def test_by_hand(self):
        # 50 a + 50 b - 1000 and 33 of 100 instead: 67 a + 67 b - 660 is at least 10 more than 0.
        self.assertEqual(forms(SURE_LAMP, (0,))[4], (-67, -67, 660))
        self.assertIs(do_bar(SURE_LAMP, (0,), (67, 0, 67, 0, 1)), True)
        self.assertIs(do_bar(SURE_LAMP, (0,), (134, 0, 134, 0, 2)), True)
        for weights in ((66, 0, 67, 0, 1), (67, 0, 67, 0, 0), (67, 1, 67, 0, 1), (0, 0, 0, 0, 0), (1, 1, 0, 0, 0)):
            self.assertIs(do_bar(SURE_LAMP, (0,), weights), False)

    def test_a_sum_of_0_needs_a_weight_of_a_word_0(self):
        # Half of it is of here at (2, 0), and more elsewhere: 50 a + 50 b - 100, a from 2, b from 0.
        good = made([raw(0, 1), raw(2, 2, "away")], 2, 3)
        self.assertEqual(forms(good, (0,)), ((1, 0, -2), (-1, 0, 3), (0, 1, 0), (0, -1, 1), (-50, -50, 100)))
        self.assertIs(do_bar(good, (0,), (50, 0, 50, 0, 1)), True)
        self.assertIsNotNone(weights_for(good, (0,)))
        # With the word 1 a sum of 0 is no bar: 50 a + 50 b - 100 is 0 with half of the highs, but below nothing.
        good = made([raw(0, 1), raw(4, 4, "away")], 2, 3)
        self.assertEqual(forms(good, (1,))[4], (50, 50, -200))
        self.assertIs(do_bar(good, (1,), (0, 50, 0, 50, 1)), False)
        self.assertIs(do_bar(with_share(good, 51), (1,), (0, 49, 0, 49, 1)), True)

    def test_weights_for_against_slow_reckoning(self):
        borders = 0
        for good in ALL:
            come = coming(good)
            for words in all_words(good):
                weights = weights_for(good, words)
                self.assertEqual(weights is None, words in come)
                if weights is not None:
                    self.assertTrue(slow_do_bar(good, words, weights))
                    self.assertIs(do_bar(good, words, weights), True)
                    self.assertTrue(all(type(weight) is int for weight in weights))
                    borders += corners(good, words) != ()
        self.assertGreater(borders, 40)

    def test_drawn_weights(self):
        chance = random.Random(36)
        for good in ALL:
            for words in all_words(good):
                weights = weights_for(good, words) or (1,) * len(forms(good, words))
                for _ in range(6):
                    others = list(weights)
                    others[chance.randrange(len(others))] += chance.choice((-1, 1, 7, -others[0]))
                    self.assertIs(do_bar(good, words, tuple(others)), slow_do_bar(good, words, others))
                    chance.shuffle(others)
                    self.assertIs(do_bar(good, words, tuple(others)), slow_do_bar(good, words, others))

    def test_weights_of_other_words(self):
        for good in GOODS + BOUNDS:
            for words in all_words(good):
                for other in all_words(good):
                    weights = weights_for(good, other)
                    if weights is not None:
                        self.assertIs(do_bar(good, words, weights), slow_do_bar(good, words, weights))

    def test_any_value_that_is_none(self):
        for good, words in ((SURE_LAMP, (0,)), (SURE_TRUCK, (0, 1)), (LAMP, (1,))):
            many = len(forms(good, words))
            right = weights_for(good, words) or (1,) * many
            bad = list(ODD) + [list(right), right[:-1], right + (0,), (right,), (0,) * many, str(right), {right: 1},
                               File(good), Outline(good), Sheet((), (), (), 0), BadPaper("form"), (right,) * many]
            odd = [True, False, None, -1, "1", 1.5, [1], (1,), {}, Agreeing(), Raising(), File(LAMP), -10 ** 60]
            bad += [right[:at] + (value,) + right[at + 1:] for at in range(many) for value in odd]
            for value in bad:
                self.assertIs(do_bar(good, words, value), False)


class PaperTest(unittest.TestCase):
    def test_words_of_papers(self):
        for good in ALL:
            paper = sure_paper(good)
            self.assertEqual(paper[0], "surely" if is_sure(good) else "fails")
            self.assertEqual(check_sure(good, paper), paper[0])

    def test_what_is_in_them(self):
        sure = 0
        for good in ALL:
            word, told = sure_paper(good)
            if word == "fails":
                self.assertIs(is_of_here(good, told), False)
                continue
            sure += 1
            self.assertEqual([words for words, _ in told], [words for words in all_words(good) if words[0] == 0])
            for words, weights in told:
                self.assertTrue(slow_do_bar(good, words, weights))
        self.assertGreater(sure, 20)

    def test_papers_of_ones_own(self):
        self.assertEqual(check_sure(SURE_LAMP, ("surely", (((0,), (134, 0, 134, 0, 2)),))), "surely")
        for prices in (lows(LAMP), ((19, 1), (20, 1), (0, 1)), ((10, 1), (20, 1), (99, 10))):
            self.assertEqual(check_sure(LAMP, ("fails", prices)), "fails")


class RefusedPaperTest(unittest.TestCase):
    def refuse(self, good, paper, part):
        with self.assertRaises(BadPaper) as caught:
            check_sure(good, paper)
        self.assertEqual(caught.exception.part, part)

    def test_form(self):
        for good in (LAMP, SURE_LAMP, SURE_TRUCK):
            word, told = sure_paper(good)
            other = "fails" if word == "surely" else "surely"
            for paper in list(ODD) + [
                [word, told], (word,), (word, told, ()), (word, list(told)), (told, word), ("Surely", told), ("", told),
                (None, told), (word.encode(), told), (True, told), (Agreeing(), told), (Raising(), told),
                (word, None), (other, {}), (other, "surely"), (word, Raising()), (word, Agreeing()), (word, File(LAMP)),
                ((word,), told), ("never", told), (word + " ", told), {word: told}, word, File(good), (other, []),
            ]:
                self.refuse(good, paper, "form")

    def test_surely_of_what_is_not_sure(self):
        for good in (LAMP, TRUCK, NEVER):
            rows = tuple((words, (1,) * len(forms(good, words))) for words in all_words(good) if words[0] == 0)
            for told in ((), rows, lows(good), (None,), ((0,), (1,))):
                self.refuse(good, ("surely", told), "surely")

    def test_rows_that_are_not_just_those(self):
        for good in [good for good in ALL if is_sure(good)]:
            _, rows = sure_paper(good)
            last = len(rows) - 1
            bad = [rows[:at] + rows[at + 1:] for at in range(len(rows))]
            bad += [rows[:at] + (rows[at],) + rows[at:] for at in range(len(rows))]
            bad += [rows + ((row[0], row[1]),) for row in rows]
            bad += [rows[::-1]] * (last > 0) + [rows[1:] + rows[:1]] * (last > 0)
            bad += [rows + (((1,) + rows[0][0][1:], rows[0][1]),)]
            bad += [rows[:at] + (((1,) + rows[at][0][1:], rows[at][1]),) + rows[at + 1:] for at in range(len(rows))]
            for told in bad:
                self.refuse(good, ("surely", told), "surely")

    def test_rows_with_other_things_in_them(self):
        odd = [None, True, [], (), "x", Agreeing(), Raising(), (None, None), (Raising(), Raising()), File(LAMP)]
        for good in (SURE_LAMP, SURE_TRUCK):
            _, rows = sure_paper(good)
            for at, (words, weights) in enumerate(rows):
                bad = odd + [(words, value) for value in odd] + [(value, weights) for value in odd] + [
                    [words, weights], (list(words), weights), (words, list(weights)), (words, weights, ()), (words,),
                    (words, weights[:-1]), (words, weights + (0,)), (words, (0,) * len(weights)),
                    (words[:-1] + (False,), weights), ((0.0,) + words[1:], weights), (words + (0,), weights),
                ]
                for k, weight in enumerate(weights):
                    for value in (-1, True, None, "1", [weight], (weight,), Raising()):
                        bad.append((words, weights[:k] + (value,) + weights[k + 1:]))
                for row in bad:
                    self.refuse(good, ("surely", rows[:at] + (row,) + rows[at + 1:]), "surely")

    def test_weights_that_do_not_bar(self):
        for good in [good for good in ALL if is_sure(good)]:
            _, rows = sure_paper(good)
            for at, (words, weights) in enumerate(rows):
                others = [other for _, other in rows] + [weights[::-1], tuple(weight + 1 for weight in weights)]
                for other in others:
                    if not slow_do_bar(good, words, other):
                        told = rows[:at] + ((words, other),) + rows[at + 1:]
                        self.refuse(good, ("surely", told), "surely")

    def test_prices_at_which_it_does_not_fail(self):
        self.refuse(LAMP, ("fails", highs(LAMP)), "fails")
        self.refuse(LAMP, ("fails", ((20, 1), (20, 1), (0, 1))), "fails")
        for good in (SURE_LAMP, SURE_TRUCK):
            for told in (lows(good), highs(good)):
                self.refuse(good, ("fails", told), "fails")

    def test_what_are_no_prices(self):
        for good in (LAMP, TRUCK, NEVER, SURE_LAMP):
            right = lows(good)
            bad = [(), right[:-1], right + ((0, 1),), (right,), ((0, 1),) * len(right), sure_paper(SURE_LAMP)[1]]
            odd = (None, True, (1, 0), (2, 2), [1, 1], (-1, 1), 5, "1/1", Raising(), Agreeing(), (10 ** 7, 1), (1,))
            bad += [right[:at] + (value,) + right[at + 1:] for at in range(len(right)) for value in odd]
            for told in bad:
                self.refuse(good, ("fails", told), "fails")

    def test_goods_with_no_thing_that_moves(self):
        for good in ALL:
            if moves(good) == ():
                word, told = sure_paper(good)
                self.assertEqual((word, told) if word == "fails" else (word, len(told)),
                                 (word, lows(good)) if word == "fails" else (word, len(all_words(good)) // 2))
