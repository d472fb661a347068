"""The errors of both halves of the interface."""

import unittest

from madeofhere import errors
from tests.samples import ODD, Raising

STRAIGHT_UNDER_MAKE_ERROR = {
    "BadGood": ("number", "part"),
    "BadPrices": ("number",),
    "BadWords": ("value",),
    "BadNumber": ("value",),
    "BadPaper": ("part",),
    "BadText": ("line",),
    "BadFraction": ("value",),
    "BadChange": ("value",),
    "BadMenu": ("number",),
    "BadSeen": ("number",),
}
NAMES = {**STRAIGHT_UNDER_MAKE_ERROR, "Nothing": ("value",)}
ORDINARY = (3, "low", None, 0, "form", (1, 2), (("raw", "here", 0, 1),), "a text\nof rows")


def classes():
    return [(getattr(errors, name), told) for name, told in NAMES.items()]


class ErrorsTest(unittest.TestCase):
    def check(self, error, told, values):
        for name, value in zip(told, values):
            self.assertIs(getattr(error, name), value)

    def rows(self, told):
        values = ORDINARY + ODD
        return [tuple(values[(at + 5 * k) % len(values)] for k in range(len(told))) for at in range(len(values))]

    def test_made_by_position(self):
        for kind, told in classes():
            for values in self.rows(told):
                self.check(kind(*values), told, values)

    def test_made_by_name(self):
        for kind, told in classes():
            for values in self.rows(told):
                self.check(kind(**dict(zip(told, values))), told, values)
                self.check(kind(**dict(reversed(list(zip(told, values))))), told, values)

    def test_bad_good_by_position_and_name(self):
        error = errors.BadGood(4, part="land")
        self.assertEqual((error.number, error.part), (4, "land"))

    def test_what_was_passed_is_not_changed_and_kept_as_it_is(self):
        value = [1, [2]]
        error = errors.BadWords(value)
        self.assertIs(error.value, value)
        self.assertEqual(value, [1, [2]])

    def test_each_object_has_its_own(self):
        first, second = errors.BadGood(1, "low"), errors.BadGood(2, "high")
        self.assertEqual((first.number, first.part, second.number, second.part), (1, "low", 2, "high"))

    def test_attributes_are_just_those_told(self):
        for kind, told in classes():
            error = kind(*([7] * len(told)))
            self.assertEqual(sorted(vars(error)), sorted(told))

    def test_straight_under_make_error(self):
        for name in STRAIGHT_UNDER_MAKE_ERROR:
            self.assertEqual(getattr(errors, name).__bases__, (errors.MakeError,), name)

    def test_make_error_is_straight_under_value_error(self):
        self.assertEqual(errors.MakeError.__bases__, (ValueError,))
        self.assertIsInstance(errors.MakeError(), ValueError)

    def test_nothing_is_straight_under_lookup_error(self):
        self.assertEqual(errors.Nothing.__bases__, (LookupError,))

    def test_none_stands_under_another_one(self):
        for one, _ in classes():
            for other, _ in classes():
                self.assertEqual(issubclass(one, other), one is other)

    def test_defined_in_this_file_under_their_names(self):
        for kind, _ in classes() + [(errors.MakeError, ())]:
            self.assertEqual(kind.__module__, "madeofhere.errors")
        self.assertEqual([kind.__name__ for kind, _ in classes()], list(NAMES))

    def test_raised_and_caught(self):
        for kind, told in classes():
            values = [Raising()] * len(told)
            with self.assertRaises(LookupError if kind is errors.Nothing else errors.MakeError) as caught:
                raise kind(*values)
            self.assertIs(type(caught.exception), kind)
            self.check(caught.exception, told, values)
