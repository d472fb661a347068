"""What goes for all calls of the package: names, kinds, errors in turn, nothing changed, the same again."""

import copy
import inspect
import unittest

from madeofhere import (
    beside, counts, desk, errors, files, goods, menus, partings, pieces, portions, rises, sures, texts, turns,
)
from madeofhere.desk import Desk
from madeofhere.errors import (
    BadChange, BadFraction, BadGood, BadMenu, BadNumber, BadPaper, BadPrices, BadSeen, BadText, BadWords, MakeError,
)
from madeofhere.files import File
from madeofhere.goods import highs, lows
from tests.drawing import drawn_goods, lively_goods
from tests.samples import CART, GIFT, LAMP, ODD, TRUCK, Agreeing, Raising, chain, made, raw, wide
from tests.slow import all_words, with_share

GOODS = [LAMP, TRUCK, CART, GIFT, made([raw(1, 1)]), wide(10), chain(4, raw(1, 2))] + drawn_goods(4, 1)
GOODS += lively_goods(5, 1, 6, 8)
BAD_GOODS = [(value, 0, "form") for value in ODD] + [
    (made([raw(1, 1, "there")]), 1, "land"), (made([raw(-1, 1)]), 1, "low"), (made([raw(2, 1)]), 1, "high"),
    (made([raw(1, 1)], rule=(101, "own", "own")), 0, "rule"), (made([]), 0, "parts"), (wide(11), 10, "many"),
    (chain(5, raw(1, 1)), 4, "many"), (raw(1, 1), 0, "raw"), (made([raw(0, 1)] * 4), 0, "moves"),
    (made([raw(0, 0)]), 0, "nothing"), (list(LAMP), 0, "form"), (File(LAMP), 0, "form"),
]
# Each function of the interface with the names of its arguments.
CALLS = {
    goods.need_good: "thing", goods.things: "good", goods.steps: "good", goods.moves: "good", goods.lows: "good",
    goods.highs: "good",
    counts.costs: "good prices", counts.owns: "good prices", counts.counted: "good prices",
    counts.words_at: "good prices", counts.is_of_here: "good prices", counts.portion: "good prices",
    pieces.forms: "good words", pieces.corners: "good words", pieces.do_come: "good words", pieces.coming: "good",
    pieces.prices_for: "good words",
    sures.is_sure: "good", sures.is_never: "good", sures.weights_for: "good words", sures.do_bar: "good words thing",
    sures.sure_paper: "good", sures.check_sure: "good paper",
    portions.least_portion: "good", portions.greatest_portion: "good", portions.prices_of: "good fraction",
    portions.most_sure: "good", portions.most_ever: "good",
    texts.good_text: "good", texts.read_good: "string", texts.prices_text: "good prices",
    texts.read_prices: "good string",
    turns.turns: "good prices number", turns.here_turns: "good prices number", turns.move_of: "good prices number",
    beside.both_forms: "good words other others", beside.are_alike: "good other", beside.never_less: "good other",
    beside.parting_prices: "good other", beside.beyond_prices: "good other", beside.beside_paper: "good other",
    beside.check_beside: "good other paper",
    partings.changes: "good", partings.changed: "good change", partings.changed_prices: "good change prices",
    partings.helping: "good", partings.harming: "good", partings.helping_prices: "good change",
    partings.making_sure: "good", partings.best_change: "good",
    menus.need_menu: "thing", menus.fitting_goods: "menu seen", menus.lots: "menu", menus.here_by: "menu prices",
    menus.telling_prices: "menu",
    rises.drop_by: "good number", rises.lift_by: "good number", rises.moody: "good",
}
CALLS = {function: tuple(names.split()) for function, names in CALLS.items()}
METHODS = {
    File: {"price": ("number", "fraction"), "rule": ("step", "fresh"), "words": (), "portion": (), "copy": (),
           "trial": (),
           "back": ("many",), "__call__": (), "__len__": (), "__eq__": ("other",), "__contains__": ("value",)},
    Desk: {"say": ("line",)},
}
TRUTHS = (
    counts.is_of_here, pieces.do_come, sures.is_sure, sures.is_never, sures.do_bar, beside.are_alike, beside.never_less,
)
MAY_BE_NONE = (
    pieces.prices_for, sures.weights_for, portions.prices_of, turns.move_of, beside.parting_prices,
    beside.beyond_prices,
    partings.helping_prices, rises.drop_by, rises.lift_by,
)
# What they tell may have None in it, in some place.
WITH_NONE = (turns.turns, turns.here_turns, partings.best_change)


def twin_of(good):
    return with_share(good, (good[4][0] + 30) % 101)


def menu_of(good):
    return (good, twin_of(good), good)


def values_of(name, function, good):
    """Some values that the argument of a function may have."""
    prices = [lows(good), highs(good)]
    if name == "thing":
        return {goods.need_good: [good], menus.need_menu: [menu_of(good)]}.get(function, [(0, 1, 2)])
    if name == "paper":
        if function is sures.check_sure:
            return [sures.sure_paper(good)]
        return [beside.beside_paper(good, twin_of(good))]
    if name == "string":
        return [texts.good_text(good)] if function is texts.read_good else [texts.prices_text(good, lows(good))]
    return {
        "good": lambda: [good], "other": lambda: [twin_of(good)], "menu": lambda: [menu_of(good)],
        "prices": lambda: prices,
        "words": lambda: all_words(good), "others": lambda: all_words(good)[-2:], "fraction": lambda: [(1, 2)],
        "number": lambda: list(range(len(prices[0]))), "change": lambda: list(partings.changes(good))[:4],
        "seen": lambda: [(), ((prices[0], 0), (prices[1], 1))],
    }[name]()


def rows_of(function, good):
    """Dicts of arguments that may be."""
    rows = [{}]
    for name in CALLS[function]:
        rows = [{**row, name: value} for row in rows for value in values_of(name, function, good)]
    return rows


def wrong_values(name, function):
    """Some values that an argument of a function with the TRUCK may not have, with their errors and what these keep."""
    text = [(value, BadText, (0,)) for value in ODD if not isinstance(value, str)]
    prices = [(value, BadPrices, (None,)) for value in ODD] + [
        (lows(TRUCK)[:3] + (None, None), BadPrices, (3,)), (((5, 0),) + lows(TRUCK)[1:], BadPrices, (0,)),
        (list(lows(TRUCK)), BadPrices, (None,)), (lows(LAMP), BadPrices, (None,)),
    ]
    no_goods = [(value, BadGood, (number, part)) for value, number, part in BAD_GOODS]
    no_menus = [(value, BadMenu, (None,)) for value in ODD if not (isinstance(value,
                                                                              tuple) and 1 <= len(value) <= 3)] + [
        ((TRUCK,) * 4, BadMenu, (None,)), ((TRUCK, LAMP), BadMenu, (1,)), ((None, LAMP), BadMenu, (0,)),
        ((TRUCK, TRUCK, LAMP), BadMenu, (2,)), ([TRUCK], BadMenu, (None,)),
    ]
    if name == "thing":
        return {goods.need_good: no_goods, menus.need_menu: no_menus}.get(function, [])
    if name == "string":
        return text + [("x", BadText, (1,)), ("", BadText, (1,))]
    if name == "paper":
        return [(value, BadPaper, ("form",)) for value in ODD]
    return {
        "good": no_goods,
        "other": no_goods + [(LAMP, BadGood, (0, "twin")), (made([raw(1, 1)], 5, 5), BadGood, (1, "twin"))],
        "menu": no_menus, "prices": prices,
        "words": [(value, BadWords, (value,)) for value in list(ODD) + [(0,), (0, 2), (0, True), [0, 0], (0, 0, 0)]],
        "others": [(value, BadWords, (value,)) for value in list(ODD) + [(0,), (0, 2), (0, True), [0, 0], (0, 0, 0)]],
        "fraction": [(value, BadFraction, (value,)) for value in list(ODD) + [(2, 4), (3, 2), (-1, 2), [1, 2],
                                                                              (True, 1)]],
        "number": [(value, BadNumber, (value,)) for value in (None, -1, 5, True, "0", (0,), [0], 10 ** 60, Agreeing(),
                                                              Raising())],
        "change": [(value, BadChange, (value,)) for value in list(ODD) + [("join", 0, 1), ("part", 0, ()),
                                                                          ("join", True, 0)]],
        "seen": [(value, BadSeen, (None,)) for value in ODD if not isinstance(value, tuple)] + [
            (((lows(TRUCK), 1), (lows(TRUCK), True)), BadSeen, (1,)), ((None,) * 41, BadSeen, (None,)),
            ((None,), BadSeen, (0,)),
        ],
    }[name]


class CallsTest(unittest.TestCase):
    def each(self):
        for function in CALLS:
            for good in GOODS:
                for row in rows_of(function, good):
                    yield function, row

    def test_by_position_and_by_names_the_last_one_first(self):
        for function, row in self.each():
            expected = function(*row.values())
            turned = dict(reversed(list(row.items())))
            self.assertEqual(function(**turned), expected)
            self.assertEqual(function(**row), expected)
            first, *others = row
            self.assertEqual(function(row[first], **{name: row[name] for name in reversed(others)}), expected)

    def test_methods_by_names_the_last_one_first(self):
        for good in GOODS:
            one, other = File(good), File(good=good)
            one.price(0, highs(good)[0])
            other.price(fraction=highs(good)[0], number=0)
            one.rule(0, (20, "own", "none"))
            other.rule(fresh=(20, "own", "none"), step=0)
            self.assertTrue(one == other)
            self.assertEqual((len(one), one.words()), (2, other.words()))
            one.back(many=2)
            other.back(many=1)
            other.back()
            self.assertTrue(one == other)
            self.assertEqual(files.under(deed=lambda file: file.words(), manager=one.trial()), one.words())
            self.assertEqual(Desk(text=texts.good_text(good)).say(line="words"),
                             " ".join(str(word) for word in one.words()))

    def test_the_names_of_the_parameters(self):
        for function, names in CALLS.items():
            self.assertEqual(tuple(inspect.signature(function).parameters), names)
        for kind, methods in METHODS.items():
            for name, names in methods.items():
                self.assertEqual(tuple(inspect.signature(getattr(kind, name)).parameters), ("self", *names))
                self.assertIn(name, vars(kind))
        self.assertEqual(tuple(inspect.signature(File).parameters), ("good",))
        self.assertEqual(tuple(inspect.signature(Desk).parameters), ("text",))
        self.assertEqual(tuple(inspect.signature(files.under).parameters), ("manager", "deed"))
        for kind, name in ((File, "good"), (File, "prices"), (Desk, "file")):
            self.assertIsInstance(vars(kind)[name], property)

    def test_defined_under_their_names_in_their_files(self):
        for module, names in (
            (errors, "MakeError BadGood BadPrices BadWords BadNumber BadPaper BadText BadFraction Nothing BadChange"
             " BadMenu BadSeen"),
            (goods, "need_good things steps moves lows highs"),
            (counts, "costs owns counted words_at is_of_here portion"),
            (pieces, "forms corners do_come coming prices_for"),
            (sures, "is_sure is_never weights_for do_bar sure_paper check_sure"),
            (portions, "least_portion greatest_portion prices_of most_sure most_ever"),
            (files, "File under"),
            (texts, "good_text read_good prices_text read_prices"),
            (desk, "Desk"),
            (turns, "turns here_turns move_of"),
            (beside, "both_forms are_alike never_less parting_prices beyond_prices beside_paper check_beside"),
            (partings, "changes changed changed_prices helping harming helping_prices making_sure best_change"),
            (menus, "need_menu fitting_goods lots here_by telling_prices"),
            (rises, "drop_by lift_by moody"),
        ):
            for name in names.split():
                self.assertEqual(getattr(module, name).__module__, module.__name__)
                self.assertTrue(getattr(module, name) in CALLS or name in ("under", "File", "Desk") or module is errors)

    def test_equal_calls_return_equal_results(self):
        for function, row in self.each():
            expected = function(**row)
            function(**rows_of(function, TRUCK)[0])
            self.assertEqual(function(**copy.deepcopy(row)), expected)
            self.assertEqual(function(**row), expected)

    def test_no_argument_is_changed(self):
        for function, row in self.each():
            before = copy.deepcopy(row)
            function(**row)
            self.assertEqual(row, before)

    def check_plain(self, value, kinds):
        """Tuples of integers and words in one another, that no one can change."""
        if type(value) is tuple:
            for one in value:
                self.check_plain(one, kinds)
        else:
            self.assertIn(type(value), kinds)

    def test_kinds_of_results(self):
        for function, row in self.each():
            result = function(**row)
            if function in TRUTHS:
                self.assertIs(type(result), bool)
            elif result is None:
                self.assertIn(function, MAY_BE_NONE)
            else:
                self.check_plain(result, (int, str, type(None)) if function in WITH_NONE else (int, str))


class RefusedTest(unittest.TestCase):
    def refuse(self, function, row, error, kept):
        with self.assertRaises(MakeError) as caught:
            function(**row)
        self.assertIs(type(caught.exception), error, function)
        names = list(inspect.signature(error).parameters)
        for name, value in zip(names, kept):
            found = getattr(caught.exception, name)
            if name == "value":
                self.assertIs(found, value)
            else:
                self.assertEqual((found, type(found)), (value, type(value)))

    def test_each_wrong_argument(self):
        for function, names in CALLS.items():
            right = rows_of(function, TRUCK)[0]
            for name in names:
                for value, error, kept in wrong_values(name, function):
                    self.refuse(function, {**right, name: value}, error, kept)

    def test_great_values(self):
        deep = ()
        for _ in range(19):
            deep = (deep,)
        listed = []
        for _ in range(19):
            listed = [listed]
        for value in ((None,) * 20000, ["made"] * 20000, "made " * 4000, deep, listed, ((0, 1),) * 19999, -10 ** 60):
            for function, names in CALLS.items():
                right = rows_of(function, TRUCK)[0]
                for name in names:
                    if function is sures.do_bar and name == "thing":
                        self.assertIs(function(**{**right, name: value}), False)
                        continue
                    with self.assertRaises(MakeError) as caught:
                        function(**{**right, name: value})
                    self.assertIn(type(caught.exception), [error for _, error, _ in wrong_values(name, function)])

    def test_the_first_wrong_argument_of_several(self):
        for function, names in CALLS.items():
            right = rows_of(function, TRUCK)[0]
            for at, name in enumerate(names):
                for value, error, kept in wrong_values(name, function):
                    for k in range(at + 1, len(names)):
                        for wrong, _, _ in wrong_values(names[k], function)[::5]:
                            self.refuse(function, {**right, name: value, names[k]: wrong}, error, kept)
                    # All that are behind it are wrong, told by their names with the last one first.
                    for odd in (None, [], Raising(), (1, 1, 1, 1, 1)):
                        behind = {one: odd for one in reversed(names[at + 1:])}
                        ahead = {one: right[one] for one in reversed(names[:at])}
                        self.refuse(function, {**behind, name: value, **ahead}, error, kept)

    def test_every_argument_of_which_an_error_is_told_is_tried(self):
        for function, names in CALLS.items():
            for name in names:
                if not (function is sures.do_bar and name == "thing"):
                    self.assertGreater(len(wrong_values(name, function)), 4, (function, name))

    def test_no_good_as_a_file(self):
        for value, number, part in BAD_GOODS:
            with self.assertRaises(BadGood) as caught:
                File(value)
            self.assertEqual((caught.exception.number, caught.exception.part), (number, part))

    def no_words(self, good):
        """Values that are no WORDS of the good."""
        many = len(all_words(good)[0])
        bad = [value for value in ODD if not (isinstance(value, tuple) and len(value) == many == 1)]
        bad += [[0] * many, (0,) * (many - 1), (1,) * (many + 1), {0: 1}, "0" * many, lows(good)[:many], File(good)]
        for value in (2, -1, True, False, None, "1", "", (1,), [1], 10 ** 60, b"1", Agreeing(), Raising()):
            bad += [(0,) * at + (value,) + (1,) * (many - at - 1) for at in range(many)]
        return bad

    def test_no_words(self):
        for good in GOODS:
            for value in self.no_words(good):
                for function, names in CALLS.items():
                    for name in ("words", "others"):
                        if name in names:
                            row = {**rows_of(function, good)[0], name: value}
                            self.refuse(function, row, BadWords, (value,))

    def test_errors_of_this_package(self):
        for error in (BadGood, BadPrices, BadWords, BadNumber, BadPaper, BadText, BadFraction, BadChange, BadMenu,
                      BadSeen):
            self.assertTrue(issubclass(error, MakeError))
