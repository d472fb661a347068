"""A live file, against a plain list of all that was done to it."""

import copy
import random
import unittest

from madeofhere.counts import is_of_here, portion, words_at
from madeofhere.errors import BadFraction, BadGood, BadNumber, MakeError, Nothing
from madeofhere.files import File, under
from madeofhere.goods import highs, lows, need_good, steps, things
from tests.drawing import drawn_goods, drawn_price, goods_at_the_bounds
from tests.samples import CART, GIFT, LAMP, ODD, TRUCK, Agreeing, Raising, made, raw
from tests.slow import all_words

FIFTY = (50, "whole", "none")
FREE = (0, "own", "own")


class Stop(Exception):
    """What a block ends by."""


class Plain:
    """What a file should be: the good at first, and all deeds that stand."""

    def __init__(self, good, deeds=()):
        self.first = good
        self.deeds = list(deeds)

    def states(self):
        """The pairs of good and prices at first and behind each deed."""
        good, prices = self.first, list(lows(self.first))
        rows = [(good, tuple(prices))]
        for kind, number, value in self.deeds:
            if kind == "price":
                prices[number] = value
            else:
                good = with_rule(good, steps(good)[number], value)
            rows.append((good, tuple(prices)))
        return rows


def with_rule(thing, number, fresh):
    """The thing with another rule of the one in it with this number, counted from itself."""
    if number == 0:
        return thing[:4] + (fresh,) + thing[5:]
    parts = []
    at = 1
    for part in thing[5]:
        many = len(flat(part))
        parts.append(with_rule(part, number - at, fresh) if at <= number < at + many else part)
        at += many
    return thing[:5] + (tuple(parts),)


def flat(thing):
    return [thing] + [one for part in (thing[5] if thing[0] == "made" else ()) for one in flat(part)]


class FilesTest(unittest.TestCase):
    def check(self, file, plain):
        rows = plain.states()
        good, prices = rows[-1]
        self.assertEqual(file.good, good)
        self.assertEqual(file.prices, prices)
        self.assertIs(need_good(file.good), file.good)
        self.assertEqual(file.words(), words_at(good, prices))
        self.assertEqual(file.portion(), portion(good, prices))
        self.assertIs(file(), is_of_here(good, prices))
        self.assertEqual(len(file), len(plain.deeds))
        had = {words_at(*row) for row in rows}
        for words in all_words(good):
            self.assertIs(words in file, words in had)
        again = File(plain.first)
        for kind, number, value in plain.deeds:
            (again.price if kind == "price" else again.rule)(number, value)
        self.assertTrue(file == again and again == file)
        self.assertFalse(file != again)

    def refuse(self, file, error, value, call):
        """Check that a call raises the error made of this value, and that nothing changes."""
        before = (file.good, file.prices, file.words(), file.portion(), len(file), file.copy())
        with self.assertRaises(error) as caught:
            call()
        self.assertIs(type(caught.exception), error)
        self.assertEqual((file.good, file.prices, file.words(), file.portion(), len(file), file), before)
        if error is BadGood:
            self.assertEqual((caught.exception.number, caught.exception.part), value)
        else:
            self.assertIs(caught.exception.value, value)


class DeedsTest(FilesTest):
    def test_at_first(self):
        for good in (LAMP, TRUCK, CART, GIFT):
            file = File(good)
            self.check(file, Plain(good))
            self.assertIs(file.good, good)
            self.check(File(good=good), Plain(good))

    def test_price(self):
        file = File(LAMP)
        self.assertIsNone(file.price(0, (41, 2)))
        self.check(file, Plain(LAMP, [("price", 0, (41, 2))]))
        self.assertEqual((file.prices, file.words(), file.portion()), (((41, 2), (20, 1), (0, 1)), (1,), (41, 81)))
        self.assertIs(file(), True)
        file.price(fraction=(5, 1), number=2)
        file.price(2, (5, 1))
        self.check(file, Plain(LAMP, [("price", 0, (41, 2)), ("price", 2, (5, 1)), ("price", 2, (5, 1))]))

    def test_the_price_of_what_does_not_move(self):
        file = File(LAMP)
        file.price(1, (20, 1))
        self.check(file, Plain(LAMP, [("price", 1, (20, 1))]))

    def test_rule(self):
        file = File(TRUCK)
        self.assertIsNone(file.rule(1, (33, "own", "none")))
        self.assertEqual(file.good, made([made([raw(20, 20, "away"), raw(0, 10)], 10, 30, "here", (33, "own", "none")),
                                          raw(30, 30, "away")], 5, 5, "away", (60, "own", "own")))
        self.assertEqual((file.words(), file.portion(), file()), ((0, 1), (2, 13), False))
        file.rule(fresh=(15, "own", "own"), step=0)
        self.assertEqual((file.words(), file()), ((1, 1), True))
        self.check(file, Plain(TRUCK, [("rule", 1, (33, "own", "none")), ("rule", 0, (15, "own", "own"))]))

    def test_the_same_rule_is_a_deed(self):
        file = File(TRUCK)
        file.rule(1, FIFTY)
        self.assertEqual((len(file), file.good), (1, TRUCK))
        self.check(file, Plain(TRUCK, [("rule", 1, FIFTY)]))

    def test_a_rule_of_each_step_of_goods_with_steps_beside_one_another(self):
        twice = made([made([raw(1, 1)]), made([raw(1, 1)]), raw(2, 3)])
        for good in [CART, twice] + drawn_goods(51, 2, 6, 10):
            deeds = []
            file = File(good)
            for step in range(len(steps(good))):
                file.rule(step, (step, "own", "own"))
                deeds.append(("rule", step, (step, "own", "own")))
                self.assertEqual(things(file.good)[steps(good)[step]][4], (step, "own", "own"))
                self.check(file, Plain(good, deeds))

    def test_prices_are_kept_when_a_rule_changes_and_the_other_way_round(self):
        file = File(CART)
        file.price(6, (7, 2))
        file.rule(3, FREE)
        file.price(8, (1, 3))
        self.check(file, Plain(CART, [("price", 6, (7, 2)), ("rule", 3, FREE), ("price", 8, (1, 3))]))

    def test_a_good_with_another_rule_is_the_good_from_then_on(self):
        file = File(LAMP)
        file.rule(0, (33, "whole", "none"))
        self.assertIs(file(), True)
        file.price(2, (1, 1))
        self.assertEqual(file.good[4], (33, "whole", "none"))
        file.back()
        file.back()
        self.assertIs(file(), False)
        self.assertIs(file.good, LAMP)

    def test_words_it_had(self):
        file = File(TRUCK)
        self.assertTrue((0, 0) in file)
        self.assertFalse((0, 1) in file)
        file.price(3, (10, 1))
        self.assertEqual(file.words(), (0, 1))
        file.price(1, (30, 1))
        self.assertEqual(file.words(), (1, 1))
        self.assertEqual([words for words in all_words(TRUCK) if words in file], [(0, 0), (0, 1), (1, 1)])
        file.back()
        self.assertEqual([words for words in all_words(TRUCK) if words in file], [(0, 0), (0, 1)])
        file.back()
        self.assertEqual([words for words in all_words(TRUCK) if words in file], [(0, 0)])

    def test_any_value_in_it(self):
        file = File(TRUCK)
        for value in list(ODD) + [
            [0, 0], (0,), (0, 0, 0), (False, False), (0, False), (False, 0), "00", (None, 0), ((0, 0),), (0, -1),
            (Agreeing(), Agreeing()), (0, Agreeing()), (Raising(), 0), {(0, 0): 1}, 0, file, ("0", "0"), File(LAMP),
            (0, 2),
        ]:
            self.assertIs(value in file, False)
        one_step = File(made([raw(1, 1)]))
        self.assertIs((1,) in one_step, True)
        self.assertIs((True,) in one_step, False)


class BackTest(FilesTest):
    def build(self):
        deeds = [("price", 0, (20, 1)), ("rule", 0, FREE), ("price", 2, (1, 2)), ("price", 0, (11, 1))]
        file = File(LAMP)
        for kind, number, value in deeds:
            (file.price if kind == "price" else file.rule)(number, value)
        return file, deeds

    def test_back(self):
        file, deeds = self.build()
        self.assertIsNone(file.back())
        self.check(file, Plain(LAMP, deeds[:3]))
        self.assertIsNone(file.back(many=2))
        self.check(file, Plain(LAMP, deeds[:1]))
        file.back(many=1)
        self.check(file, Plain(LAMP))
        self.refuse(file, Nothing, 1, lambda: file.back(many=1))
        with self.assertRaises(Nothing) as caught:
            file.back()
        self.assertEqual(caught.exception.value, 1)

    def test_all_at_once_and_on_from_there(self):
        file, deeds = self.build()
        file.back(many=4)
        self.check(file, Plain(LAMP))
        file.price(2, (7, 1))
        self.check(file, Plain(LAMP, [("price", 2, (7, 1))]))

    def test_more_than_there_are(self):
        file, _ = self.build()
        for many in (5, 6, 10 ** 60):
            self.refuse(file, Nothing, many, lambda: file.back(many=many))
        self.assertFalse(issubclass(Nothing, MakeError))

    def test_what_is_no_integer_from_1_on(self):
        for file in (self.build()[0], File(LAMP)):
            for many in list(ODD) + [0, -1, -5, True, False, "1", (1,), [1], 1.0, File(LAMP)]:
                if isinstance(many, int) and not isinstance(many, bool) and many > 0:
                    continue
                self.refuse(file, BadNumber, many, lambda: file.back(many=many))

    def test_by_name_alone(self):
        file, _ = self.build()
        with self.assertRaises(TypeError):
            file.back(1)
        self.assertEqual(len(file), 4)


class RefusedTest(FilesTest):
    def test_no_good(self):
        for value in ODD + (File(LAMP),):
            with self.assertRaises(BadGood) as caught:
                File(value)
            self.assertEqual((caught.exception.number, caught.exception.part), (0, "form"))

    def numbers(self, many):
        bad = [value for value in ODD if not (type(value) is int and 0 <= value < many)]
        return bad + [many, many + 1, -1, -many, True, False, "0", (0,), [0], 0.0, 10 ** 60, File(LAMP)]

    def test_no_number_of_a_thing(self):
        file = File(LAMP)
        file.price(0, (12, 1))
        for number in self.numbers(3):
            for fraction in ((10, 1), None, (2, 2), Raising()):
                self.refuse(file, BadNumber, number, lambda: file.price(number, fraction))
                self.refuse(file, BadNumber, number, lambda: file.price(fraction=fraction, number=number))

    def test_no_price(self):
        file = File(LAMP)
        file.price(0, (12, 1))
        for fraction in list(ODD) + [
            (9, 1), (31, 1), (19, 2), (61, 2), (10, 0), (20, 2), (-10, -1), (True, 1), (10, True), [10, 1], (10,), LAMP,
            "10/1", 10, (None, 1), (10 ** 60, 1), (10 ** 59 - 1, 10 ** 58), (Raising(), Raising()), (Agreeing(), 1),
            (10, 1, 1),
        ]:
            self.refuse(file, BadFraction, fraction, lambda: file.price(0, fraction))
        for fraction in ((-1, 1), (11, 1), (0, 2), (False, 1), (21, 2), (-1, 10 ** 59)):
            self.refuse(file, BadFraction, fraction, lambda: file.price(2, fraction))
        for fraction in ((19, 1), (21, 1), (39, 2), (0, 1)):
            self.refuse(file, BadFraction, fraction, lambda: file.price(1, fraction))

    def test_no_number_of_a_step(self):
        file = File(TRUCK)
        file.rule(0, FREE)
        for step in self.numbers(2):
            for fresh in (FIFTY, None, (101, "own", "own"), Raising()):
                self.refuse(file, BadNumber, step, lambda: file.rule(step, fresh))
                self.refuse(file, BadNumber, step, lambda: file.rule(fresh=fresh, step=step))

    def test_no_rule(self):
        file = File(CART)
        file.rule(2, FREE)
        for fresh in list(ODD) + [
            (-1, "own", "own"), (101, "own", "own"), (True, "own", "own"), (5, "none", "own"), (5, "own", "whole"),
            [5, "own", "own"], (5, "own", "own", 1), ("5", "own", "own"), (5, Agreeing(), "own"), (Raising(),) * 3,
            (5, "own"), (5, "own", None), (5, "Own", "own"), File(LAMP), LAMP,
        ]:
            for step, number in enumerate((0, 1, 3, 6)):
                self.refuse(file, BadGood, (number, "rule"), lambda: file.rule(step, fresh))

    def test_no_argument_is_changed(self):
        good, price, rule = copy.deepcopy((CART, (7, 2), FREE))
        file = File(good)
        file.price(6, price)
        file.rule(1, rule)
        self.assertEqual((good, price, rule), (CART, (7, 2), FREE))


class CopyTest(FilesTest):
    def test_it_stands_likewise_and_goes_on_by_itself(self):
        deeds = [("price", 1, (30, 1)), ("rule", 0, FREE), ("price", 3, (1, 1))]
        file = File(TRUCK)
        file.price(1, (30, 1))
        file.rule(0, FREE)
        file.price(3, (1, 1))
        other = file.copy()
        self.assertIsInstance(other, File)
        self.assertIsNot(other, file)
        self.check(other, Plain(TRUCK, deeds))
        other.back(many=2)
        self.check(other, Plain(TRUCK, deeds[:1]))
        self.check(file, Plain(TRUCK, deeds))
        file.back()
        file.price(1, (12, 1))
        self.check(file, Plain(TRUCK, deeds[:2] + [("price", 1, (12, 1))]))
        self.check(other, Plain(TRUCK, deeds[:1]))
        other.back()
        self.check(other, Plain(TRUCK))
        self.check(File(LAMP).copy(), Plain(LAMP))

    def test_copies_of_copies(self):
        file = File(LAMP)
        rows = [file]
        for k in range(5):
            rows.append(rows[-1].copy())
            rows[-1].price(2, (k, 1))
        for k, one in enumerate(rows):
            self.check(one, Plain(LAMP, [("price", 2, (at, 1)) for at in range(k)]))


class TrialTest(FilesTest):
    def begin(self):
        file = File(TRUCK)
        file.price(1, (30, 1))
        file.rule(1, FREE)
        return file, Plain(TRUCK, [("price", 1, (30, 1)), ("rule", 1, FREE)])

    def test_ends_by_its_end(self):
        file, plain = self.begin()
        with file.trial() as one:
            self.assertIs(one, file)
            one.price(3, (5, 1))
            one.rule(0, FREE)
            self.check(file, Plain(TRUCK, plain.deeds + [("price", 3, (5, 1)), ("rule", 0, FREE)]))
        self.check(file, plain)
        file.back()
        self.check(file, Plain(TRUCK, plain.deeds[:1]))

    def test_deeds_from_before_are_taken_back_in_it(self):
        file, plain = self.begin()
        with file.trial():
            file.back(many=2)
            self.check(file, Plain(TRUCK))
            file.price(1, (11, 1))
            self.check(file, Plain(TRUCK, [("price", 1, (11, 1))]))
        self.check(file, plain)

    def test_ends_by_an_error(self):
        for error in (Stop, Nothing, BadNumber, KeyboardInterrupt):
            file, plain = self.begin()
            with self.assertRaises(error):
                with file.trial() as one:
                    one.back()
                    one.price(3, (5, 1))
                    raise error(3)
            self.check(file, plain)
        with self.assertRaises(BadFraction):
            with file.trial():
                file.back()
                file.price(3, (11, 1))
        self.check(file, plain)

    def test_ends_by_a_return_and_by_a_break(self):
        file, plain = self.begin()

        def run():
            with file.trial():
                file.back()
                return file.words()

        self.assertEqual(run(), (0, 1))
        self.check(file, plain)
        for _ in range(3):
            with file.trial():
                file.price(3, (2, 1))
                break
        self.check(file, plain)

    def test_trials_in_trials(self):
        file, plain = self.begin()
        with file.trial():
            file.price(3, (1, 1))
            inner = Plain(TRUCK, plain.deeds + [("price", 3, (1, 1))])
            with file.trial() as one:
                one.back(many=3)
                one.rule(0, FREE)
                with one.trial():
                    one.back()
                self.check(file, Plain(TRUCK, [("rule", 0, FREE)]))
            self.check(file, inner)
            with self.assertRaises(Stop):
                with file.trial():
                    file.back()
                    raise Stop
            self.check(file, inner)
        self.check(file, plain)

    def test_as_it_was_when_the_block_began(self):
        file, plain = self.begin()
        trial = file.trial()
        file.price(3, (4, 1))
        with trial:
            file.back(many=3)
        self.check(file, Plain(TRUCK, plain.deeds + [("price", 3, (4, 1))]))

    def test_copies_from_within_stand(self):
        file, plain = self.begin()
        with file.trial():
            file.price(3, (9, 1))
            other = file.copy()
            with other.trial():
                other.back(many=3)
        self.check(file, plain)
        self.check(other, Plain(TRUCK, plain.deeds + [("price", 3, (9, 1))]))

    def test_nothing_done(self):
        file, plain = self.begin()
        with file.trial():
            pass
        self.check(file, plain)

    def test_under(self):
        file, plain = self.begin()

        def deed(one):
            one.back()
            one.price(3, (7, 1))
            return one, one.portion(), len(one)

        # The LAMP costs 57 and is of here: so 57 of 92 are.
        self.assertEqual(under(file.trial(), deed), (file, (57, 92), 2))
        self.check(file, plain)
        self.assertIsNone(under(deed=lambda one: one.rule(0, FREE), manager=file.trial()))
        self.check(file, plain)

        def stop(one):
            one.back()
            raise Stop

        with self.assertRaises(Stop):
            under(file.trial(), stop)
        self.check(file, plain)

    def test_under_another_manager(self):
        class Manager:
            def __init__(self):
                self.told = []

            def __enter__(self):
                self.told.append("in")
                return self.told

            def __exit__(self, *told):
                self.told.append("out")

        manager = Manager()
        self.assertEqual(under(manager, lambda one: one + ["deed"]), ["in", "deed"])
        self.assertEqual(manager.told, ["in", "out"])


class EqualTest(FilesTest):
    def test_other_files(self):
        first = File(LAMP)
        first.price(0, (20, 1))
        first.rule(0, FREE)
        same = File(copy.deepcopy(LAMP))
        same.price(0, (11, 1))
        self.assertFalse(first == same)
        same.back()
        same.price(0, (20, 1))
        self.assertFalse(first == same)
        same.rule(0, FREE)
        self.assertTrue(first == same)
        self.assertFalse(first != same)

    def test_the_same_standing_by_other_deeds(self):
        one, other = File(LAMP), File(LAMP)
        one.price(0, (20, 1))
        one.price(2, (1, 1))
        other.price(2, (1, 1))
        other.price(0, (20, 1))
        self.assertEqual((one.good, one.prices), (other.good, other.prices))
        self.assertFalse(one == other)
        twice = File(LAMP)
        twice.price(0, (10, 1))
        self.assertFalse(twice == File(LAMP))
        ruled = File(LAMP)
        ruled.rule(0, FIFTY)
        self.assertFalse(ruled == twice)
        self.assertFalse(ruled == File(LAMP))

    def test_it_has_to_begin_with_the_same_good(self):
        one, other = File(LAMP), File(made([raw(20, 20, "away"), raw(0, 10)], 10, 30, rule=FREE))
        other.rule(0, FIFTY)
        one.rule(0, FIFTY)
        self.assertEqual((one.good, one.prices), (other.good, other.prices))
        self.assertFalse(one == other)

    def test_any_value(self):
        file = File(LAMP)
        plain = [one for one in ODD if not isinstance(one, (Agreeing, Raising))]
        for value in plain + [LAMP, lows(LAMP), file.trial()]:
            self.assertIs(file == value, False)
            self.assertIs(file != value, True)
        self.assertIs(file == Agreeing(), False)
        self.assertIs(file == Raising(), False)


class DrawnDeedsTest(FilesTest):
    """Drawn deeds, each followed by a look at all that a file tells."""

    def deed(self, chance, file, plain):
        good = file.good
        kind = chance.choice(("price", "price", "rule", "back", "trial", "copy", "wrong"))
        if kind == "price":
            number = chance.randrange(len(flat(good)))
            fraction = drawn_price(chance, *flat(good)[number][2:4])
            file.price(number, fraction)
            plain.deeds.append(("price", number, fraction))
        elif kind == "rule":
            step = chance.randrange(len(steps(good)))
            fresh = (chance.randint(0, 100), chance.choice(("whole", "own")), chance.choice(("own", "none")))
            file.rule(step, fresh)
            plain.deeds.append(("rule", step, fresh))
        elif kind == "back" and plain.deeds:
            many = min(len(plain.deeds), chance.choice((1, 1, 2, 3)))
            file.back(many=many)
            del plain.deeds[-many:]
        elif kind == "trial":
            inner = Plain(plain.first, plain.deeds)
            with file.trial():
                for _ in range(chance.randint(0, 3)):
                    self.deed(chance, file, inner)
                self.check(file, inner)
        elif kind == "copy":
            other = file.copy()
            other.rule(0, FREE)
            self.check(other, Plain(plain.first, plain.deeds + [("rule", 0, FREE)]))
        else:
            self.refuse(file, BadNumber, None, lambda: file.price(None, highs(good)[0]))

    def test_drawn_deeds(self):
        chance = random.Random(52)
        for good in drawn_goods(53, 1, 6, 10) + goods_at_the_bounds(54, 1):
            file, plain = File(good), Plain(good)
            for _ in range(25):
                self.deed(chance, file, plain)
                self.check(file, plain)

    def test_many_deeds(self):
        file = File(LAMP)
        for k in range(3000):
            file.price(2, (k % 11, 1))
        self.assertEqual(len(file), 3000)
        with file.trial():
            file.back(many=3000)
            self.assertEqual(file, File(LAMP))
        self.assertTrue(file == file.copy())
        file.back(many=2999)
        self.check(file, Plain(LAMP, [("price", 2, (0, 1))]))
