"""What goes for all calls of pieces, sures, portions and files: names, kinds, errors in turn, nothing changed."""

import copy
import inspect
import unittest

from madeofhere import files, pieces, portions, sures
from madeofhere.errors import BadFraction, BadGood, BadPaper, BadWords, MakeError
from madeofhere.files import File
from madeofhere.goods import lows
from tests.drawing import drawn_goods
from tests.samples import CART, GIFT, LAMP, ODD, TRUCK, Agreeing, Raising, chain, made, raw, wide
from tests.slow import all_words

GOODS = [LAMP, TRUCK, CART, GIFT, made([raw(1, 1)]), wide(10), chain(4, raw(1, 2))] + drawn_goods(4, 1)
BAD_GOODS = [(value, 0, "form") for value in ODD] + [
    (made([raw(1, 1, "there")]), 1, "land"), (made([raw(-1, 1)]), 1, "low"), (made([raw(2, 1)]), 1, "high"),
    (made([raw(1, 1)], rule=(101, "own", "own")), 0, "rule"), (made([]), 0, "parts"), (wide(11), 10, "many"),
    (chain(5, raw(1, 1)), 4, "many"), (raw(1, 1), 0, "raw"), (made([raw(0, 1)] * 4), 0, "moves"),
    (made([raw(0, 0)]), 0, "nothing"), (list(LAMP), 0, "form"), (File(LAMP), 0, "form"),
]
# Each function with the names of its arguments behind the GOOD, and some of them that may be.
CALLS = [
    (pieces.forms, ("words",)),
    (pieces.corners, ("words",)),
    (pieces.do_come, ("words",)),
    (pieces.coming, ()),
    (pieces.prices_for, ("words",)),
    (sures.is_sure, ()),
    (sures.is_never, ()),
    (sures.weights_for, ("words",)),
    (sures.do_bar, ("words", "thing")),
    (sures.sure_paper, ()),
    (sures.check_sure, ("paper",)),
    (portions.least_portion, ()),
    (portions.greatest_portion, ()),
    (portions.prices_of, ("fraction",)),
    (portions.most_sure, ()),
    (portions.most_ever, ()),
]
FREE = {"thing": (0, 1, 2), "fraction": (1, 2)}
TRUTHS = (pieces.do_come, sures.is_sure, sures.is_never, sures.do_bar)


def rows_of_arguments(good, names):
    """Dicts of arguments that may be, but for the GOOD."""
    rows = [{}]
    for name in names:
        values = {"words": all_words(good), "paper": [sures.sure_paper(good)]}.get(name, [FREE.get(name)])
        rows = [{**row, name: value} for row in rows for value in values]
    return rows


class CallsTest(unittest.TestCase):
    def each(self):
        for function, names in CALLS:
            for good in GOODS:
                for row in rows_of_arguments(good, names):
                    yield function, good, row

    def test_by_position_and_by_names_the_last_one_first(self):
        for function, good, row in self.each():
            expected = function(good, *row.values())
            turned = dict(reversed(list(row.items())))
            self.assertEqual(function(**turned, good=good), expected)
            self.assertEqual(function(good=good, **row), expected)
            self.assertEqual(function(good, **turned), expected)

    def test_the_names_of_the_parameters(self):
        for function, names in CALLS:
            self.assertEqual(tuple(inspect.signature(function).parameters), ("good", *names))
        methods = {"price": ("number", "fraction"), "rule": ("step", "fresh"), "words": (), "portion": (), "copy": (),
                   "trial": (), "back": ("many",), "__call__": (), "__len__": ()}
        for name, names in methods.items():
            self.assertEqual(tuple(inspect.signature(getattr(File, name)).parameters), ("self", *names))
        self.assertEqual(tuple(inspect.signature(File).parameters), ("good",))
        self.assertEqual(tuple(inspect.signature(files.under).parameters), ("manager", "deed"))

    def test_defined_under_their_names_in_their_files(self):
        for module, names in (
            (pieces, "forms corners do_come coming prices_for"),
            (sures, "is_sure is_never weights_for do_bar sure_paper check_sure"),
            (portions, "least_portion greatest_portion prices_of most_sure most_ever"),
            (files, "File under"),
        ):
            for name in names.split():
                self.assertEqual(getattr(module, name).__module__, module.__name__)
        methods = "good prices price rule __call__ words portion __len__ back copy trial __eq__ __contains__"
        for name in methods.split():
            self.assertIn(name, vars(File))

    def test_equal_calls_return_equal_results(self):
        for function, good, row in self.each():
            expected = function(good, **row)
            function(LAMP, **rows_of_arguments(LAMP, tuple(row))[0])
            self.assertEqual(function(copy.deepcopy(good), **copy.deepcopy(row)), expected)

    def test_no_argument_is_changed(self):
        for function, good, row in self.each():
            before = copy.deepcopy((good, row))
            function(good, **row)
            self.assertEqual((good, row), before)

    def check_plain(self, value):
        """Tuples of integers and words in one another, that no one can change."""
        if type(value) is tuple:
            for one in value:
                self.check_plain(one)
        else:
            self.assertIn(type(value), (int, str))

    def test_kinds_of_results(self):
        for function, good, row in self.each():
            result = function(good, **row)
            if function in TRUTHS:
                self.assertIs(type(result), bool)
            elif result is None:
                self.assertIn(function, (pieces.prices_for, sures.weights_for, portions.prices_of))
            else:
                self.check_plain(result)


class RefusedTest(unittest.TestCase):
    def refuse_good(self, value, number, part, call):
        with self.assertRaises(BadGood) as caught:
            call(value)
        self.assertEqual((caught.exception.number, caught.exception.part), (number, part))
        self.assertIs(type(caught.exception.number), int)

    def test_no_good(self):
        for value, number, part in BAD_GOODS:
            for function, names in CALLS:
                for row in rows_of_arguments(LAMP, names):
                    self.refuse_good(value, number, part, lambda good: function(good, **row))
            self.refuse_good(value, number, part, File)

    def test_no_good_ahead_of_all_else(self):
        for value, number, part in BAD_GOODS:
            for odd in (None, [], Raising(), (1, 1, 1, 1, 1)):
                for function, names in CALLS:
                    row = {name: odd for name in reversed(names)}
                    self.refuse_good(value, number, part, lambda good: function(**row, good=good))

    def no_words(self, good):
        """Values that are no WORDS of the good."""
        many = len(all_words(good)[0])
        bad = [value for value in ODD if not (isinstance(value, tuple) and len(value) == many == 1)]
        bad += [[0] * many, (0,) * (many - 1), (1,) * (many + 1), {0: 1}, "0" * many, lows(good)[:many], File(good)]
        for value in (2, -1, True, False, None, "1", "", (1,), [1], 10 ** 60, b"1", Agreeing(), Raising()):
            bad += [(0,) * at + (value,) + (1,) * (many - at - 1) for at in range(many)]
        return bad

    def test_no_words(self):
        for good in GOODS:
            for value in self.no_words(good):
                for function, names in CALLS:
                    if "words" not in names:
                        continue
                    for thing in (None, (1, 2), Raising()):
                        row = {"words": value, "thing": thing}
                        with self.assertRaises(BadWords) as caught:
                            function(good=good, **{name: row[name] for name in names})
                        self.assertIs(caught.exception.value, value)

    def test_errors_of_this_package(self):
        for error in (BadGood, BadWords, BadFraction, BadPaper):
            self.assertTrue(issubclass(error, MakeError))
