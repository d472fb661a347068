"""Texts of GOODS and of PRICES, against a writer of the test's own, and the first row that can not stand."""

import random
import unittest

from madeofhere.errors import BadGood, BadPrices, BadText
from madeofhere.files import File
from madeofhere.goods import highs, lows, need_good
from madeofhere.texts import good_text, prices_text, read_good, read_prices
from tests.drawing import drawn_goods, drawn_prices, goods_at_the_bounds, lonely_goods
from tests.samples import CART, GIFT, LAMP, ODD, TRUCK, chain, made, raw, wide
from tests.slow import all_things

MOST = 10 ** 6
GOODS = [
    LAMP, TRUCK, CART, GIFT, made([raw(1, 1)]), wide(10), chain(4, raw(1, 2)),
    made([raw(0, MOST)], MOST, MOST, "away", (100, "own", "own")),
]
ALL = GOODS + drawn_goods(81, 4, 9, 10) + goods_at_the_bounds(82, 4) + lonely_goods()
NOT_STRINGS = [value for value in ODD if not isinstance(value, str)] + [
    0, 1, -1, 10 ** 60, True, False, None, (), ("made",), [], ["made here 1 1 1 own own"], {}, {"a": 1}, b"", b"made",
    LAMP, File(LAMP), ValueError("made"),
]


def rows_of(thing, depth=0):
    """The rows of a thing by the words of the document."""
    words = ["." * depth] if depth else []
    words += [thing[0], thing[1], str(thing[2]), str(thing[3])]
    if thing[0] == "raw":
        return [" ".join(words)]
    share, up, down = thing[4]
    rows = [" ".join(words + [str(share), up, down])]
    for part in thing[5]:
        rows += rows_of(part, depth + 1)
    return rows


def text_of(thing):
    return "\n".join(rows_of(thing))


def kinds(value):
    """The kinds of a value and of all in it."""
    return (type(value), [kinds(one) for one in value]) if isinstance(value, tuple) else type(value)


class GoodTextTest(unittest.TestCase):
    def test_by_hand(self):
        self.assertEqual(good_text(LAMP), "made here 10 30 50 whole none\n. raw away 20 20\n. raw here 0 10")
        self.assertEqual(good_text(TRUCK), (
            "made away 5 5 60 own own\n. made here 10 30 50 whole none\n.. raw away 20 20\n.. raw here 0 10\n"
            ". raw away 30 30"
        ))
        self.assertEqual(good_text(chain(4, raw(1, MOST))), (
            "made here 0 0 50 whole none\n. made here 0 0 50 whole none\n.. made here 0 0 50 whole none\n"
            "... made here 0 0 50 whole none\n.... raw here 1 1000000"
        ))

    def test_against_a_writer_of_its_own(self):
        for good in ALL:
            self.assertEqual(good_text(good), text_of(good))
            self.assertIs(type(good_text(good)), str)

    def test_no_good(self):
        for value in ODD:
            with self.assertRaises(BadGood) as caught:
                good_text(value)
            self.assertEqual((caught.exception.number, caught.exception.part), (0, "form"))


class ReadGoodTest(unittest.TestCase):
    def refuse(self, text, line):
        with self.assertRaises(BadText) as caught:
            read_good(text)
        self.assertEqual(caught.exception.line, line)
        self.assertIs(type(caught.exception.line), int)

    def refuse_good(self, text, number, part):
        with self.assertRaises(BadGood) as caught:
            read_good(text)
        self.assertEqual((caught.exception.number, caught.exception.part), (number, part))

    def test_it_is_the_good_again(self):
        for good in ALL:
            again = read_good(text_of(good))
            self.assertEqual(again, good)
            self.assertEqual(kinds(again), kinds(good))
            self.assertEqual(read_good(good_text(good)), good)

    def test_going_back_by_several_points_at_once(self):
        deep = made([made([made([raw(1, 1)]), raw(2, 2)]), made([raw(3, 3)])])
        self.assertEqual(read_good(text_of(deep)), deep)
        self.assertEqual(read_good(
            "made here 1 1 1 own own\n. made here 0 0 2 own own\n.. made here 0 0 3 own own\n... raw here 1 1\n"
            ". raw away 2 2"
        ), made([made([made([raw(1, 1)], rule=(3, "own", "own"))], rule=(2, "own", "own")), raw(2, 2, "away")], 1, 1,
                rule=(1, "own", "own")))

    def test_no_string(self):
        for value in NOT_STRINGS:
            self.refuse(value, 0)

    def wrong_rows(self, row):
        """Rows that can not stand for a row that can, wherever it is."""
        words = row.split(" ")
        points = words[0] if words[0][0] == "." else ""
        rest = words[1:] if points else words
        ahead = points + " " if points else ""
        told = ["", " ", "  ", row + " ", " " + row, row + "  ", row + " 1", row + " own", row + " .", row + "\t",
                "\t" + row, row + "\r", row.upper(), row.title(), row.replace(" ", ""), row.replace(" ", "\t"),
                row.replace(" ", "_"), " ".join(words[:-1]), " ".join(words + words), "x", ".", "..", ". .", "#", "-",
                ahead + ". " + " ".join(rest), ahead + " ".join(rest[1:]), points + " ".join(rest), ". " * 3 + row,
                points, "." * 30, points + ".x " + " ".join(rest), row + "."]
        told += [row[:at] + " " + row[at:] for at, sign in enumerate(row) if sign == " "]
        told += [ahead + " ".join(rest[:at] + rest[at + 1:]) for at in range(len(rest))]
        told += [ahead + " ".join(rest[:at] + [rest[at]] + rest[at:]) for at in range(len(rest))]
        for at, word in enumerate(rest):
            others = [word.capitalize() + "x", word + ".", "." + word, word[0] + "." + word[1:], "none none", "",
                      "here.",
                      "Here", "HERE", "raws", "cooked", word + ",", '"' + word + '"', "/", "None", "wholes", "0x1"]
            if word.isdigit():
                others += ["-" + word, "+" + word, "0" + word, "00", "01", "007", "1" * 8, "10000000", "0" * 8, "1.0",
                           "1_0", "1e3", "one", "1/1", "\u0661", "\u00b2", "\uff11", "1\u0661", "-0", "+0", "--1",
                           "0b1"]
            else:
                others += ["1", "0"] + [one for one in ("raw", "made", "here", "away", "whole", "own", "none")
                                        if one not in self.may_stand(rest, at)]
            told += [ahead + " ".join(rest[:at] + [other] + rest[at + 1:]) for other in others]
        return [one for one in told if one != row]

    def may_stand(self, rest, at):
        if at == 0:
            return (rest[0],)
        if at == 1:
            return ("here", "away")
        return ("whole", "own") if at == 5 else ("own", "none")

    def test_rows_that_can_not_stand(self):
        for good in (LAMP, TRUCK, CART, chain(4, raw(1, 2))):
            rows = rows_of(good)
            for at, row in enumerate(rows):
                for wrong in self.wrong_rows(row):
                    self.refuse("\n".join(rows[:at] + [wrong] + rows[at + 1:]), at + 1)

    def test_the_first_of_several(self):
        rows = rows_of(CART)
        for at in range(len(rows)):
            for wrong in ("", ". raw here 1", ".................... raw here 1 1", "raw here 01 1"):
                told = rows[:at] + [wrong] + ["x"] * (len(rows) - at)
                self.refuse("\n".join(told), at + 1)
                # What is no GOOD ahead of it does not matter.
                told[:at] = [row.replace(" 0 ", " 999 ").replace("here 3", "here 9") for row in told[:at]]
                self.refuse("\n".join(told), at + 1)

    def test_an_empty_row_at_an_end(self):
        for good in (LAMP, TRUCK, CART):
            text = text_of(good)
            self.refuse(text + "\n", len(rows_of(good)) + 1)
            self.refuse(text + "\n\n", len(rows_of(good)) + 1)
            self.refuse("\n" + text, 1)
            self.refuse(text.replace("\n", "\n\n", 1), 2)
            self.refuse(text.replace("\n", "\r\n"), 1)
        self.refuse("", 1)
        self.refuse("\n", 1)
        self.refuse(" ", 1)

    def test_points(self):
        first, part, thing = "made here 1 1 50 own own", "made away 2 2 50 own own", "raw here 3 3"
        for row in (first, thing):
            for points in (". ", ".. ", "... "):
                self.refuse(points + row, 1)
        # A further row without points.
        for row in (first, thing):
            self.refuse(first + "\n" + row, 2)
            self.refuse(f"{first}\n. {thing}\n{row}", 3)
            self.refuse(f"{first}\n. {part}\n.. {thing}\n{row}", 4)
        # More points than one more than the row ahead, where that is made.
        for row in (part, thing):
            self.refuse(f"{first}\n.. {row}", 2)
            self.refuse(f"{first}\n. {part}\n... {row}", 3)
            self.refuse(f"{first}\n. {part}\n.... {row}", 3)
        # More points than the row ahead, where that is raw.
        for row in (part, thing):
            self.refuse(f"{first}\n. {thing}\n.. {row}", 3)
            self.refuse(f"{first}\n. {part}\n.. {thing}\n... {row}", 4)
            self.refuse(f"{first}\n. {part}\n.. {thing}\n. {thing}\n.. {row}", 5)
            self.refuse(f"{thing}\n. {row}", 2)
            self.refuse(f"{thing}\n{row}", 2)

    def test_the_row_just_ahead_judges_the_points(self):
        first, part, thing = "made here 1 1 50 own own", "made away 2 2 50 own own", "raw here 3 3"
        good = read_good(f"{first}\n. {thing}\n. {part}\n.. {thing}")
        self.assertEqual(good, made([raw(3, 3), made([raw(3, 3)], 2, 2, "away", (50, "own", "own"))], 1, 1,
                                    rule=(50, "own", "own")))
        # A part that is made has no parts, as the next row has no more points: that is no GOOD, but the rows may stand.
        self.refuse_good(f"{first}\n. {part}\n. {thing}", 1, "parts")
        self.refuse_good(f"{first}\n. {part}\n.. {part}\n. {thing}", 2, "parts")

    def test_numbers_up_to_seven_figures(self):
        for low, high, number, part in (
            ("1000001", "1000001", 1, "low"), ("9999999", "1", 1, "low"), ("0", "1000001", 1, "high"),
            ("7", "9999999", 1, "high"), ("2", "1", 1, "high"),
        ):
            self.refuse_good(f"made here 1 1 50 own own\n. raw here {low} {high}", number, part)
        for share in ("101", "1000", "9999999"):
            self.refuse_good(f"made here 1 1 {share} own own\n. raw here 1 1", 0, "rule")
        for row in ("raw here 10000000 1", "raw here 0 10000000", "raw here 1 00", "raw here 00 1"):
            self.refuse("made here 1 1 50 own own\n. " + row, 2)
        self.refuse("made here 1 1 10000000 own own\n. raw here 1 1", 1)

    def test_behind_that_what_need_good_tells(self):
        four, three = made([raw(1, 1)] * 4), made([raw(1, 1)] * 3)
        for thing, number, part in (
            (made([raw(2, 1)]), 1, "high"), (made([raw(0, MOST + 1)]), 1, "high"),
            (made([raw(MOST + 1, MOST + 1)]), 1, "low"),
            (made([raw(1, 1)], rule=(101, "own", "own")), 0, "rule"), (made([]), 0, "parts"),
            (made([made([])]), 1, "parts"),
            (made([raw(1, 1)] * 5), 0, "parts"), (made([raw(1, 1), made([raw(1, 1)] * 5)]), 2, "parts"),
            (made([four, three, raw(1, 1)]), 10, "many"), (wide(11), 10, "many"), (chain(5, raw(1, 1)), 4, "many"),
            (made([made([raw(1, 1)])] * 4), 7, "many"), (raw(1, 1), 0, "raw"), (raw(2, 1), 0, "high"),
            (made([raw(0, 1)] * 4), 0, "moves"), (made([raw(0, 0)]), 0, "nothing"), (chain(4, raw(0, 5)), 0, "nothing"),
            (chain(19, raw(1, 1)), 4, "many"), (made([made([raw(1, 1)] * 5)] * 5), 0, "parts"),
        ):
            self.refuse_good(text_of(thing), number, part)
            with self.assertRaises(BadGood) as caught:
                need_good(thing)
            self.assertEqual((caught.exception.number, caught.exception.part), (number, part))
            # A row that can not stand comes first, wherever it is.
            self.refuse(text_of(thing) + "\nx", len(rows_of(thing)) + 1)

    def test_long_texts(self):
        row = "\n. raw here 1 1"
        many = (20000 - 24) // len(row)
        self.refuse_good("made here 1 1 50 own own" + row * many, 0, "parts")
        self.refuse("made here 1 1 50 own own" + row * (many - 1) + "\n. raw here 1  1", many + 1)
        self.refuse("x" * 20000, 1)
        self.refuse("\n" * 20000, 1)
        self.refuse("." * 20000, 1)
        self.refuse("made here 1 1 " + "1" * 19000 + " own own", 1)
        deep = [("." * depth + " " if depth else "") + "made here 1 1 1 own own" for depth in range(170)]
        self.refuse_good("\n".join(deep), 4, "many")
        self.refuse("\n".join(deep) + "\n" + "." * 171 + " raw here 1 1", 171)


class PricesTextTest(unittest.TestCase):
    def test_by_hand(self):
        self.assertEqual(prices_text(LAMP, lows(LAMP)), "10/1 20/1 0/1")
        self.assertEqual(prices_text(LAMP, ((41, 4), (20, 1), (10, 3))), "41/4 20/1 10/3")
        self.assertEqual(read_prices(LAMP, "41/4 20/1 10/3"), ((41, 4), (20, 1), (10, 3)))

    def test_both_ways(self):
        chance = random.Random(83)
        for good in ALL:
            bounds = [thing[2:4] for thing in all_things(good)]
            for prices in lows(good), highs(good), drawn_prices(chance, bounds), drawn_prices(chance, bounds):
                text = " ".join(str(part) + "/" + str(of) for part, of in prices)
                self.assertEqual(prices_text(good, prices), text)
                self.assertIs(type(prices_text(good, prices)), str)
                again = read_prices(good, text)
                self.assertEqual(again, prices)
                self.assertEqual(kinds(again), kinds(prices))

    def test_prices_with_sixty_figures(self):
        of = 10 ** 59
        prices = ((10 * of + 1, of), (20, 1), (1, of))
        self.assertEqual(prices_text(LAMP, prices), f"{10 * of + 1}/{of} 20/1 1/{of}")

    def test_what_are_no_prices(self):
        for good in (LAMP, TRUCK):
            for value in ODD + (lows(good)[1:], list(lows(good)), "10/1 20/1 0/1"):
                with self.assertRaises(BadPrices) as caught:
                    prices_text(good, value)
                self.assertIsNone(caught.exception.number)
            for at in range(len(lows(good))):
                for value in ((1, 0), (2, 2), (MOST + 1, 1), "1/1", None, [1, 1], (True, 1)):
                    prices = lows(good)[:at] + (value,) + (None,) * (len(lows(good)) - at - 1)
                    with self.assertRaises(BadPrices) as caught:
                        prices_text(good, prices)
                    self.assertEqual(caught.exception.number, at)


class ReadPricesTest(unittest.TestCase):
    def refuse(self, good, string, line):
        with self.assertRaises(BadText) as caught:
            read_prices(good, string)
        self.assertEqual(caught.exception.line, line)

    def refuse_prices(self, good, string, number):
        with self.assertRaises(BadPrices) as caught:
            read_prices(good, string)
        self.assertEqual(caught.exception.number, number)

    def test_no_good_before_anything_else(self):
        for string in NOT_STRINGS + ["", "1/1", "x"]:
            for good, number, part in ((None, 0, "form"), (made([raw(2, 1)]), 1, "high"), (raw(1, 1), 0, "raw")):
                with self.assertRaises(BadGood) as caught:
                    read_prices(good, string)
                self.assertEqual((caught.exception.number, caught.exception.part), (number, part))

    def test_no_string(self):
        for value in NOT_STRINGS + [lows(LAMP)]:
            self.refuse(LAMP, value, 0)

    def test_what_is_not_so_written(self):
        right = "10/1 20/1 0/1"
        for text in (
            "", " ", "10/1 20/1", "10/1", "10/1 20/1 0/1 0/1", right + " ", " " + right, "10/1  20/1 0/1", right + "\n",
            "10/1 20/1\n0/1", "10/1\t20/1 0/1", "10/1,20/1,0/1", "10/1 20/1 0/1 ", "10 / 1 20/1 0/1", "10/1 20/1 ",
        ):
            self.refuse(LAMP, text, 1)

    def test_words_that_are_no_fractions(self):
        words = ["10/1", "20/1", "0/1"]
        for wrong in (
            "1", "10", "1/0", "0/0", "0/2", "2/4", "10/10", "20/2", "01/1", "1/01", "1/00", "00/1", "+1/1", "1/+1",
            "-1/1",
            "-0/1", "1/-1", "-10/-1", "1/1/1", "1//1", "/1", "1/", "/", "//", "", "x/1", "1/x", "1.0/1", "1_0/1",
            "0x1/1",
            "\u0661/1", "1/\u0661", "\u00b2/1", "1\\1", "1:1", "1/1.", "(1/1)", "1e1/1", "10/1/", "/10/1",
            "1" * 31 + "/1", "1/1" + "0" * 30, "1" * 1000 + "/1", "1/" + "7" * 31,
        ):
            for at in range(3):
                self.refuse(LAMP, " ".join(words[:at] + [wrong] + words[at + 1:]), 1)
                # That comes ahead of a price beyond its bounds.
                self.refuse(LAMP, " ".join(["99/1"] * at + [wrong] + ["99/1"] * (2 - at)), 1)

    def test_up_to_thirty_figures(self):
        of = 10 ** 28
        for price in ((10 * of + 1, of), (30 * of - 1, of), (11 * of + 7, of)):
            self.assertEqual(read_prices(LAMP, f"{price[0]}/{price[1]} 20/1 1/{10 ** 29}"),
                             (price, (20, 1), (1, 10 ** 29)))
        self.refuse_prices(LAMP, "9" * 30 + "/1 20/1 0/1", 0)
        self.refuse(LAMP, f"10/1 20/1 1/{10 ** 30}", 1)
        self.refuse_prices(LAMP, f"1/{10 ** 29} 20/1 1/{10 ** 29}", 0)

    def test_prices_that_are_beyond_their_bounds(self):
        for text, number in (
            ("9/1 20/1 0/1", 0), ("31/1 20/1 0/1", 0), ("19/2 20/1 0/1", 0), ("61/2 20/1 0/1", 0),
            ("10/1 21/1 11/1", 1),
            ("10/1 41/2 0/1", 1), ("10/1 20/1 11/1", 2), ("10/1 20/1 21/2", 2), ("0/1 0/1 99/1", 0),
            ("30/1 0/1 99/1", 1),
        ):
            self.refuse_prices(LAMP, text, number)
        self.refuse_prices(TRUCK, "5/1 10/1 20/1 11/1 29/1", 3)
