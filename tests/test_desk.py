"""A desk, against a File of the test's own beside it."""

import random
import unittest

from madeofhere.errors import BadGood, BadNumber, BadText, MakeError
from madeofhere.desk import Desk
from madeofhere.files import File
from madeofhere.goods import steps, things
from madeofhere.portions import most_ever, most_sure
from madeofhere.sures import is_never, is_sure
from tests.drawing import drawn_goods, drawn_price, goods_at_the_bounds, lively_goods
from tests.samples import CART, GIFT, LAMP, TRUCK, chain, made, raw, wide
from tests.slow import with_share
from tests.test_texts import NOT_STRINGS, rows_of, text_of

GOODS = [LAMP, TRUCK, CART, GIFT, made([raw(1, 1)]), wide(10), chain(4, raw(1, 2))]
ALL = GOODS + lively_goods(91, 1, 6, 10) + goods_at_the_bounds(92, 1)
QUESTIONS = ("words", "portion", "sure", "most", "text", "prices")


def land(file):
    return "here" if file() else "away"


def answer(file, line):
    """What a desk with a file should answer, to lines that may stand; an error of the package is its no."""
    word, *told = line.split(" ")
    try:
        if word == "price":
            part, of = told[1].split("/")
            file.price(int(told[0]), (int(part), int(of)))
            return land(file)
        if word == "rule":
            file.rule(int(told[0]), (int(told[1]), told[2], told[3]))
            return land(file)
    except MakeError:
        return "no"
    if word == "undo":
        if len(file) == 0:
            return "nothing"
        file.back()
        return "done"
    good = file.good
    return {
        "words": lambda: " ".join(str(word) for word in file.words()),
        "portion": lambda: "/".join(str(number) for number in file.portion()),
        "sure": lambda: "surely" if is_sure(good) else "never" if is_never(good) else "either",
        "most": lambda: f"{most_sure(good)} {most_ever(good)}",
        "text": lambda: " / ".join(rows_of(good)),
        "prices": lambda: " ".join(f"{part}/{of}" for part, of in file.prices),
    }[word]()


def stand(file):
    return file.good, file.prices, file.words(), file.portion(), len(file)


class DeskTest(unittest.TestCase):
    def check(self, desk, file, line):
        before = file.copy()
        expected = answer(file, line)
        self.assertEqual(desk.say(line), expected, line)
        self.assertTrue(desk.file == file)
        self.assertEqual(stand(desk.file), stand(file))
        if expected == "no":
            self.assertTrue(desk.file == before)
        for question in QUESTIONS:
            self.assertEqual(desk.say(question), answer(file, question))
        self.assertTrue(desk.file == file)


class SayTest(DeskTest):
    def test_by_hand(self):
        desk = Desk(text_of(TRUCK))
        for line, told in (
            ("words", "0 0"), ("portion", "0/1"), ("sure", "either"), ("most", "0 63"),
            ("prices", "5/1 10/1 20/1 0/1 30/1"),
            ("text", "made away 5 5 60 own own / . made here 10 30 50 whole none / .. raw away 20 20 / .. raw here 0 10"
             " / . raw away 30 30"),
            ("undo", "nothing"), ("price 1 30/1", "away"), ("words", "0 1"), ("portion", "10/17"),
            ("price 3 15/2", "here"),
            ("words", "1 1"), ("prices", "5/1 30/1 20/1 15/2 30/1"), ("rule 1 100 own none", "away"), ("words", "0 0"),
            ("text", "made away 5 5 60 own own / . made here 10 30 100 own none / .. raw away 20 20 / .. raw here 0 10"
             " / . raw away 30 30"),
            ("sure", "never"), ("most", "0 0"), ("rule 0 0 whole own", "here"), ("sure", "surely"), ("undo", "done"),
            ("undo", "done"), ("words", "1 1"), ("price 3 11/1", "no"), ("price 3 10/1", "here"), ("undo", "done"),
            ("undo", "done"), ("undo", "done"), ("undo", "nothing"), ("words", "0 0"), ("undo", "nothing"),
        ):
            self.assertEqual(desk.say(line), told, line)

    def test_sure(self):
        for good, told in (
            (LAMP, "either"), (with_share(LAMP, 33), "surely"), (with_share(LAMP, 34), "either"),
            (with_share(LAMP, 66), "either"), (with_share(LAMP, 67), "never"), (made([raw(1, 1)]), "surely"),
        ):
            self.assertEqual(Desk(text_of(good)).say("sure"), told)

    def test_by_the_names_of_the_parameters(self):
        desk = Desk(text=text_of(LAMP))
        self.assertEqual(desk.say(line="words"), "0")
        self.assertIsInstance(desk.file, File)

    def line(self, chance, file):
        """A line that may stand, and is refused now and then."""
        good = file.good
        kind = chance.choice(("price",) * 4 + ("rule",) * 3 + ("undo",) * 2 + QUESTIONS)
        if kind == "price":
            number = chance.randrange(len(things(good)) + 1)
            low, high = things(good)[number][2:4] if number < len(things(good)) else (0, 9)
            part, of = drawn_price(chance, low, high)
            return f"price {number} {part + chance.choice((0, 0, 0, of))}/{of}"
        if kind == "rule":
            words = chance.choice(("whole", "own")), chance.choice(("own", "none"))
            step, share = chance.randrange(len(steps(good)) + 1), chance.choice((0, 40, 50, 100, 101))
            return " ".join(("rule", str(step), str(share), *words))
        return kind

    def test_drawn_lines(self):
        chance = random.Random(93)
        told = {}
        for good in ALL:
            desk, file = Desk(text_of(good)), File(good)
            for _ in range(30):
                line = self.line(chance, file)
                self.check(desk, file, line)
                told[desk.say("sure")] = told[land(file)] = told[line.split(" ")[0]] = True
        for word in ("surely", "never", "either", "here", "away", "price", "rule", "undo") + QUESTIONS:
            self.assertIn(word, told)

    def test_the_very_file(self):
        desk = Desk(text_of(TRUCK))
        file = desk.file
        self.assertIs(desk.file, file)
        file.price(1, (30, 1))
        self.assertEqual((desk.say("words"), desk.say("prices")), ("0 1", "5/1 30/1 20/1 0/1 30/1"))
        desk.say("rule 0 10 own own")
        self.assertEqual((file.good[4], len(file), file()), ((10, "own", "own"), 2, True))
        file.back(many=2)
        self.assertEqual(desk.say("undo"), "nothing")
        with file.trial():
            self.assertEqual(desk.say("price 1 20/1"), "away")
            self.assertEqual(desk.say("words"), "0 1")
        self.assertEqual(desk.say("words"), "0 0")
        self.assertIs(desk.file, file)

    def test_desks_of_one_text_go_on_by_themselves(self):
        one, other = Desk(text_of(LAMP)), Desk(text_of(LAMP))
        self.assertTrue(one.file == other.file)
        one.say("price 0 30/1")
        self.assertEqual((one.say("words"), other.say("words")), ("1", "0"))
        self.assertIsNot(one.file, other.file)

    def test_numbers_of_seven_figures_and_prices_of_thirty(self):
        good = made([raw(0, 10 ** 6)], 1, 1)
        desk, file = Desk(text_of(good)), File(good)
        for line in ("price 1 1000000/1", f"price 1 1/{10 ** 29}", f"price 1 {10 ** 29 - 1}/{10 ** 24}",
                     "price 1 1000001/1"):
            self.check(desk, file, line)
        for line in ("price 9999999 1/1", "price 1000000 1/1", "rule 9999999 1 own own", "rule 0 9999999 own own"):
            self.check(desk, file, line)
        for line in ("price 00000001 1/1", "price 10000000 1/1", "rule 10000000 1 own own", "rule 0 10000000 own own",
                     f"price 1 1/{10 ** 30}", f"price 1 {10 ** 30}/1"):
            self.assertEqual(desk.say(line), "no")


class NoTest(DeskTest):
    def no(self, desk, line):
        before = desk.file.copy()
        state = stand(desk.file)
        self.assertEqual(desk.say(line), "no", line)
        self.assertTrue(desk.file == before)
        self.assertEqual(stand(desk.file), state)

    def each_desk(self):
        for deeds in ((), ("price 1 12/1", "rule 1 10 own own", "price 3 1/2")):
            desk = Desk(text_of(TRUCK))
            for deed in deeds:
                desk.say(deed)
            yield desk

    def test_what_is_no_such_line(self):
        right = ("price 1 20/1", "rule 1 20 own own", "words", "portion", "sure", "most", "text", "prices", "undo")
        lines = ["", " ", "  ", "\n", "x", "no", "here", "back", "good", "file", "copy", "len", "words words", "price",
                 "rule",
                 "undo undo", "undo 1", "say words", "price 1", "price 20/1", "rule 1", "rule 1 20", "rule 1 20 own",
                 "rule 1 20 own own own", "rule 20 own own", "price 1 20/1 1", "price 1 2 20/1", "words 0",
                 "portion 1/2"]
        for line in right:
            lines += [line + " ", " " + line, line + "\n", "\n" + line, line.upper(), line.capitalize(), line.title(),
                      line + "\t", line + " x", "x " + line, line + "x", line[:-1], line + ".", line + ";", line + "\r",
                      line + "\nwords", line + " / words", line.replace(" ", "  "), line.replace(" ", "\n"),
                      line.replace(" ", "\t"), line[:3] + "\n" + line[3:], line[:3] + " " + line[3:]]
        for desk in self.each_desk():
            for line in lines:
                if line not in right:
                    self.no(desk, line)

    def test_integers_and_fractions_that_are_none(self):
        wrong = ("01", "00", "-1", "+1", "-0", "+0", "1.0", "1_0", "x", "one", "", "1,", "0x1", "\u0661", "\u00b2",
                 "True",
                 "1/1", "11111111", "00000000", "1e1")
        fractions = ("20", "20/0", "0/0", "40/2", "2/4", "0/2", "020/1", "20/01", "+20/1", "-20/1", "20/-1", "-20/-1",
                     "20/+1",
                     "20//1", "20/1/1", "/1", "20/", "/", "", "x/1", "20/x", "20.0/1", "\u0661/1", "20\\1", "20:1",
                     "1" * 31 + "/1", "20/1" + "0" * 30)
        for desk in self.each_desk():
            for word in wrong:
                self.no(desk, f"price {word} 20/1")
                self.no(desk, f"rule {word} 20 own own")
                self.no(desk, f"rule 1 {word} own own")
            for fraction in fractions:
                self.no(desk, "price 1 " + fraction)
                self.no(desk, "price 9 " + fraction)
            for up in ("none", "Whole", "WHOLE", "", "all", "1", "own,"):
                self.no(desk, f"rule 1 20 {up} own")
            for down in ("whole", "None", "", "nothing", "0", "own\n"):
                self.no(desk, f"rule 1 20 own {down}")

    def test_what_is_refused(self):
        for desk in self.each_desk():
            for line in (
                "price 5 1/1", "price 99 1/1", "price 9999999 20/1", "price 1 9/1", "price 1 31/1", "price 1 19/2",
                "price 1 61/2", "price 3 11/1", "price 2 21/1", "price 2 19/1", "price 2 41/2", "price 0 0/1",
                "rule 2 20 own own", "rule 5 20 own own", "rule 9999999 20 own own", "rule 1 101 own own",
                "rule 0 9999999 whole none",
            ):
                self.no(desk, line)

    def test_long_lines(self):
        for desk in self.each_desk():
            for line in ("x" * 20000, " " * 20000, "price " * 3000, "price 1 " + "1" * 19000 + "/1", "\n" * 20000,
                         "words" + " " * 10000):
                self.no(desk, line)

    def test_no_string(self):
        for desk in self.each_desk():
            before, state = desk.file.copy(), stand(desk.file)
            for value in NOT_STRINGS + [desk, desk.file, ["words"], ("words",), b"words"]:
                with self.assertRaises(BadText) as caught:
                    desk.say(value)
                self.assertEqual(caught.exception.line, 0)
                self.assertIs(type(caught.exception.line), int)
            self.assertTrue(desk.file == before)
            self.assertEqual(stand(desk.file), state)


class NoDeskTest(unittest.TestCase):
    def test_errors_as_read_good(self):
        for value in NOT_STRINGS:
            with self.assertRaises(BadText) as caught:
                Desk(value)
            self.assertEqual(caught.exception.line, 0)
        rows = rows_of(CART)
        for at in range(len(rows)):
            with self.assertRaises(BadText) as caught:
                Desk("\n".join(rows[:at] + [rows[at] + " "] + rows[at + 1:]))
            self.assertEqual(caught.exception.line, at + 1)
        for thing, number, part in (
            (made([raw(2, 1)]), 1, "high"), (made([]), 0, "parts"), (raw(1, 1), 0, "raw"),
            (made([raw(0, 0)]), 0, "nothing"),
            (wide(11), 10, "many"), (made([raw(0, 1)] * 4), 0, "moves"),
            (made([raw(1, 1)], rule=(101, "own", "own")), 0, "rule"),
        ):
            with self.assertRaises(BadGood) as caught:
                Desk(text_of(thing))
            self.assertEqual((caught.exception.number, caught.exception.part), (number, part))

    def test_what_is_done_to_the_file_is_refused_as_by_any_file(self):
        desk = Desk(text_of(LAMP))
        with self.assertRaises(BadNumber):
            desk.file.price(3, (1, 1))
        self.assertEqual(desk.say("undo"), "nothing")

    def test_desks_of_drawn_goods(self):
        for good in drawn_goods(94, 2, 9, 10) + goods_at_the_bounds(95, 2):
            desk = Desk(text_of(good))
            self.assertTrue(desk.file == File(good))
            self.assertEqual(desk.file.good, good)
